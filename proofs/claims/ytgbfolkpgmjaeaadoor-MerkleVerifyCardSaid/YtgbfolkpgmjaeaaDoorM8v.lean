/- Layer 8: roots and proofs of a tree. Condition, where it is named: the table of round constants holds the round constants. -/
import Derived.Test.YtgbfolkpgmjaeaaDoorM8u
namespace Go.Proofs.YtgbfolkpgmjaeaaDoor
open Go.RowKit Sx
set_option maxRecDepth 100000

theorem log_le {c : Nat} (h : 1 ≤ c) (hc : c ≤ 1000) : Nat.log2 c < 10 := by rw [Nat.log2_lt (by omega)]; omega
theorem blen_log {c : Nat} (h : 1 ≤ c) (hc : c ≤ 1000) : IntKind.i64.wrap (((blen c : Nat) : Int) - 1) = ((Nat.log2 c : Nat) : Int) := by
  have := log_le h hc
  unfold blen
  rw [if_neg (by omega), show (((Nat.log2 c + 1 : Nat) : Int) - 1) = ((Nat.log2 c : Nat) : Int) by omega, wrap_nat (by omega)]
theorem shl_val {L : Nat} (h : L < 10) : IntKind.i64.wrap (1 * 2 ^ (min ((L : Nat) : Int).toNat IntKind.i64.bits)) = ((2 ^ L : Nat) : Int) := by
  have h2 : 2 ^ L ≤ 2 ^ 10 := Nat.pow_le_pow_right (by decide) (by omega)
  rw [Int.toNat_natCast, Nat.min_eq_left (by show _ ≤ 64; omega), Int.one_mul, show ((2 : Int) ^ L) = ((2 ^ L : Nat) : Int) by simp, wrap_nat (by omega)]
theorem shl_y {c : Nat} (h1 : 1 ≤ c) (hc : c ≤ 1000) (h : c = 2 ^ Nat.log2 c) : ((c : Int) == IntKind.i64.wrap (1 * 2 ^ (min ((Nat.log2 c : Nat) : Int).toNat IntKind.i64.bits))) = true := by
  rw [shl_val (log_le h1 hc), ← h]; simp
theorem shl_n {c : Nat} (h1 : 1 ≤ c) (hc : c ≤ 1000) (h : c ≠ 2 ^ Nat.log2 c) : ((c : Int) == IntKind.i64.wrap (1 * 2 ^ (min ((Nat.log2 c : Nat) : Int).toNat IntKind.i64.bits))) = false := by
  rw [shl_val (log_le h1 hc)]; simp only [beq_eq_false_iff_ne, ne_eq]; omega
theorem shr_val {s L : Nat} (h : L < 10) : (s : Int).fdiv (2 ^ (min ((L : Nat) : Int).toNat IntKind.i64.bits)) = ((s / 2 ^ L : Nat) : Int) := by
  rw [Int.toNat_natCast, Nat.min_eq_left (by show _ ≤ 64; omega), show ((2 : Int) ^ L) = ((2 ^ L : Nat) : Int) by simp]
  exact (Int.ofNat_fdiv s (2 ^ L)).symm
theorem rb_lt {l : List Hx} {s e : Nat} (hs : s < e) (he : e ≤ l.length) (h : e - s = 2 ^ Nat.log2 (e - s)) (ha : 2 ^ Nat.log2 (e - s) ∣ s) : s / 2 ^ Nat.log2 (e - s) < (lev l (Nat.log2 (e - s))).length := by
  obtain ⟨c, hc⟩ := ha
  have hp : 0 < 2 ^ Nat.log2 (e - s) := Nat.two_pow_pos _
  rw [lev_len]
  generalize 2 ^ Nat.log2 (e - s) = p at h hc hp
  rw [hc, Nat.mul_div_cancel_left _ hp]
  refine Nat.lt_of_succ_le ((Nat.le_div_iff_mul_le hp).2 ?_)
  rw [Nat.succ_mul, Nat.mul_comm c p, ← hc]; omega
theorem rb_val {l : List Hx} {s e : Nat} (hs : s < e) (he : e ≤ l.length) (h : e - s = 2 ^ Nat.log2 (e - s)) (ha : 2 ^ Nat.log2 (e - s) ∣ s) : H8 ((lev l (Nat.log2 (e - s))).getD (s / 2 ^ Nat.log2 (e - s)) H0) = H8 (part l s e) := by
  have h1 := rb_lt hs he h ha
  rw [lev_len] at h1
  rw [lev_get _ _ _ h1]
  obtain ⟨c, hc⟩ := ha
  have hp : 0 < 2 ^ Nat.log2 (e - s) := Nat.two_pow_pos _
  have e1 : s / 2 ^ Nat.log2 (e - s) * 2 ^ Nat.log2 (e - s) = s := Nat.div_mul_cancel ⟨c, hc⟩
  rw [e1, ← h, show s + (e - s) = e by omega]
theorem spl_log {c : Nat} (h : 2 ≤ c) (hne : c ≠ 2 ^ Nat.log2 c) : spl c = 2 ^ Nat.log2 c := by
  have h1 := Nat.log2_self_le (n := c) (by omega)
  have h2 := Nat.lt_log2_self (n := c)
  rw [Nat.pow_succ] at h2
  exact spl_eq (by omega) (by omega)
theorem two_le {c : Nat} (h : 1 ≤ c) (hne : c ≠ 2 ^ Nat.log2 c) : 2 ≤ c := by
  rcases Nat.lt_or_ge c 2 with h1 | h1
  · have : c = 1 := by omega
    subst this
    exact absurd rfl hne
  · exact h1
theorem log_pow (k : Nat) : Nat.log2 (2 ^ k) = k := by
  refine (Nat.log2_eq_iff (by have := Nat.two_pow_pos k; omega)).2 ⟨Nat.le_refl _, ?_⟩
  rw [Nat.pow_succ]; have := Nat.two_pow_pos k; omega
theorem al_l {s e : Nat} (h2 : 2 ≤ e - s) (h : e - s ≠ 2 ^ Nat.log2 (e - s)) (ha : 2 ^ Nat.log2 (e - s) ∣ s) : 2 ^ Nat.log2 (s + spl (e - s) - s) ∣ s := by
  rw [Nat.add_sub_cancel_left, spl_log h2 h, log_pow]; exact ha
theorem log_mono {a b : Nat} (h0 : 1 ≤ a) (h : a ≤ b) : Nat.log2 a ≤ Nat.log2 b := by
  have h1 := Nat.lt_log2_self (n := b)
  have : Nat.log2 a < Nat.log2 b + 1 := (Nat.log2_lt (by omega)).2 (by omega)
  omega
/-- Where both halves of a part may be asked for. -/
theorem cut_al {s e : Nat} (h2 : 2 ≤ e - s) (ha : 2 ^ Nat.log2 (e - s) ∣ s) : 2 ^ Nat.log2 (s + spl (e - s) - s) ∣ s ∧ 2 ^ Nat.log2 (e - (s + spl (e - s))) ∣ s + spl (e - s) := by
  have h1 := spl_lt h2
  have h3 := spl_ge h2
  refine ⟨?_, ?_⟩
  · rw [Nat.add_sub_cancel_left]
    exact Nat.dvd_trans (Nat.pow_dvd_pow 2 (log_mono (spl_pos _) (Nat.le_of_lt h1))) ha
  · have e1 : 2 ^ Nat.log2 (e - (s + spl (e - s))) ∣ 2 ^ Nat.log2 (e - s) := Nat.pow_dvd_pow 2 (log_mono (by omega) (by omega))
    refine Nat.dvd_add (Nat.dvd_trans e1 ha) ?_
    unfold spl at h3 ⊢
    refine Nat.pow_dvd_pow 2 ?_
    have : e - (s + 2 ^ Nat.log2 (e - s - 1)) ≤ 2 ^ Nat.log2 (e - s - 1) := by omega
    have h4 := log_mono (show 1 ≤ e - (s + 2 ^ Nat.log2 (e - s - 1)) by unfold spl at h1; omega) this
    rwa [log_pow] at h4
theorem gtk_f {k n : Nat} (h : k ≤ n) : decide ((k : Int) > (n : Int)) = false := by apply decide_eq_false; omega
theorem gtk_t {k : Int} {n : Nat} (h : (n : Int) < k) : decide (k > (n : Int)) = true := by apply decide_eq_true; omega
theorem part_take (l : List Hx) (k : Nat) : part l 0 k = rootF (l.take k) := by unfold part; rw [List.drop_zero, Nat.sub_zero]
def htV (h : Hx) (b : Bool) : Value := .tuple #[H8 h, .bool b]
theorem al_0 (k : Nat) : 2 ^ Nat.log2 (k - 0) ∣ 0 := ⟨0, rfl⟩
theorem rb_y (m : Nat) (l : List Hx) (fr : Nat → Fq) (hok : TrOk m (hrows (lev l)) fr) (hn : l.length ≤ 1000) (s e : Nat) (hs : s < e) (he : e ≤ l.length) (ha : 2 ^ Nat.log2 (e - s) ∣ s) (h : e - s = 2 ^ Nat.log2 (e - s)) (A : Facts) : CallR Tryd.prog 26 [.pointer (some ⟨m, 0, none⟩), .int .i64 (s : Int), .int .i64 (e : Int)] A ((treeF m (hrows (lev l)) fr)) (Unit) (fun _ => H8 (part l s e)) (fun _ => []) :=
  reads_of_vcF Tryd.mixed good_merkle_Tree_rootBetween (args := [(.pointer (some ⟨m, 0, none⟩), []), (.int .i64 (s : Int), []), (.int .i64 (e : Int), [])]) (B := A) (F := (treeF m (hrows (lev l)) fr)) (O := [.opt 1 [(2, .ld (.int .i64 ((e - s : Nat) : Int)))], .reg [(1, .ld (.int .u64 ((e - s : Nat) : Int))), (2, det (.int .i64 ((blen (e - s) : Nat) : Int))), (3, .ld (.int .i64 ((Nat.log2 (e - s) : Nat) : Int)))], .yes, .opt 4 [(3, .ld (.pointer (some ⟨m, 0, none⟩))), (4, .ld (.pointer (some ⟨m, Nat.log2 (e - s), none⟩))), (5, .rdT 0 Unit () (fun _ => tcell (hrows (lev l)) fr (Nat.log2 (e - s))) (fun _ => [])), (10, .rdT 0 Unit () (fun _ => H8 ((lev l (Nat.log2 (e - s))).getD (s / 2 ^ (Nat.log2 (e - s))) H0)) (fun _ => []))]]) (.app ((.refl _)) (.app (.nil _) (.app (.nil _) (.app (.nil _) (.nil _))))) (⟨ld_sub (sub_nat (Nat.le_of_lt hs) (by omega)) _, ⟨ld_touint (by omega) _, ⟨c_len (e - s) (by omega) _, fun _ => ⟨ld_sub (blen_log (by omega) (by omega)) _, ⟨Int.natCast_nonneg _, ⟨(shl_y (by omega) (by omega) h), ⟨ld_f0 m _, ⟨ld_ix m (Nat.lt_trans (log_le (c := e - s) (by omega) (by omega)) (by decide)) _, ⟨fun _ g => by subst g; exact rd_cell (Nat.lt_trans (log_le (c := e - s) (by omega) (by omega)) (by decide)), fun _ => ⟨Int.natCast_nonneg _, ⟨idx_lv hok (Nat.lt_trans (log_le (c := e - s) (by omega) (by omega)) (by decide)) rfl rfl (lenB_h _) (by rw [shr_val (log_le (c := e - s) (by omega) (by omega))]; exact Int.natCast_nonneg _) (by rw [shr_val (log_le (c := e - s) (by omega) (by omega))]; exact Int.ofNat_lt.2 (rb_lt hs he h ha)), ⟨fun _ g => by subst g; exact rd_lv hok (Nat.lt_trans (log_le (c := e - s) (by omega) (by omega)) (by decide)) rfl rfl (s / 2 ^ (Nat.log2 (e - s))) (shr_val (log_le (c := e - s) (by omega) (by omega))) (rb_lt hs he h ha), fun _ => ⟨(), rb_val hs he h ha, nofun, fun _ g => g, trivial⟩⟩⟩⟩⟩⟩⟩⟩⟩⟩⟩⟩⟩)
theorem rb_n (m : Nat) (l : List Hx) (fr : Nat → Fq) (_hok : TrOk m (hrows (lev l)) fr) (hn : l.length ≤ 1000) (s e : Nat) (hs : s < e) (he : e ≤ l.length) (ha : 2 ^ Nat.log2 (e - s) ∣ s) (h : e - s ≠ 2 ^ Nat.log2 (e - s)) (h2 : 2 ≤ e - s) (A : Facts) (hA : EnvF RC A) (IH : ∀ s2 e2 : Nat, s2 < e2 → e2 ≤ l.length → e2 - s2 < e - s → 2 ^ Nat.log2 (e2 - s2) ∣ s2 → ∀ A, EnvF RC A → CallR Tryd.prog 26 [.pointer (some ⟨m, 0, none⟩), .int .i64 (s2 : Int), .int .i64 (e2 : Int)] A (treeF m (hrows (lev l)) fr) Unit (fun _ => H8 (part l s2 e2)) (fun _ => [])) : CallR Tryd.prog 26 [.pointer (some ⟨m, 0, none⟩), .int .i64 (s : Int), .int .i64 (e : Int)] A ((treeF m (hrows (lev l)) fr)) (Unit) (fun _ => H8 (part l s e)) (fun _ => []) :=
  reads_of_vcF Tryd.mixed good_merkle_Tree_rootBetween (args := [(.pointer (some ⟨m, 0, none⟩), []), (.int .i64 (s : Int), []), (.int .i64 (e : Int), [])]) (B := A) (F := (treeF m (hrows (lev l)) fr)) (O := [.opt 1 [(2, .ld (.int .i64 ((e - s : Nat) : Int)))], .reg [(1, .ld (.int .u64 ((e - s : Nat) : Int))), (2, det (.int .i64 ((blen (e - s) : Nat) : Int))), (3, .ld (.int .i64 ((Nat.log2 (e - s) : Nat) : Int)))], .no, .reg [(2, det (.int .i64 ((spl (e - s) : Nat) : Int))), (3, .ld (.int .i64 ((s + spl (e - s) : Nat) : Int)))], .reg [(3, .rdT 0 Unit () (fun _ => H8 (part l s (s + spl (e - s)))) (fun _ => [])), (7, .rdT 0 Unit () (fun _ => H8 (part l (s + spl (e - s)) e)) (fun _ => [])), (8, det (H8 (part l s e)))]]) (.app ((.refl _)) (.app (.nil _) (.app (.nil _) (.app (.nil _) (.nil _))))) (⟨ld_sub (sub_nat (Nat.le_of_lt hs) (by omega)) _, ⟨ld_touint (by omega) _, ⟨c_len (e - s) (by omega) _, fun _ => ⟨ld_sub (blen_log (by omega) (by omega)) _, ⟨Int.natCast_nonneg _, ⟨(shl_n (by omega) (by omega) h), ⟨c_lc (e - s) h2 (by omega) _, fun _ => ⟨ld_add (add_nat (by have := spl_lt h2; omega)) _, ⟨fun _ g => by subst g; exact callR_op (IH s (s + spl (e - s)) (by have := spl_pos (e - s); omega) (by have := spl_lt h2; omega) (by have := spl_lt h2; omega) (cut_al h2 ha).1 _ (hA.app _)) rfl rfl, fun _ => ⟨fun _ g => by subst g; exact callR_op (IH (s + spl (e - s)) e (by have := spl_lt h2; omega) he (by have := spl_pos (e - s); omega) (cut_al h2 ha).2 _ (hA.app _)) rfl rfl, fun _ => ⟨c_nodeZ (part_cut l h2 he).symm _ (hA.app _), fun _ => ⟨(), rfl, nofun, fun _ g => g, trivial⟩⟩⟩⟩⟩⟩⟩⟩⟩⟩⟩⟩)
theorem c_rbt (m : Nat) (l : List Hx) (fr : Nat → Fq) (hok : TrOk m (hrows (lev l)) fr) (hn : l.length ≤ 1000) : ∀ (k s e : Nat), e - s = k → s < e → e ≤ l.length → 2 ^ Nat.log2 (e - s) ∣ s → ∀ A, EnvF RC A → CallR Tryd.prog 26 [.pointer (some ⟨m, 0, none⟩), .int .i64 (s : Int), .int .i64 (e : Int)] A (treeF m (hrows (lev l)) fr) Unit (fun _ => H8 (part l s e)) (fun _ => []) := by
  intro k
  induction k using Nat.strongRecOn with
  | ind k ih =>
    intro s e hk hs he ha A hA
    by_cases h : e - s = 2 ^ Nat.log2 (e - s)
    · exact rb_y m l fr hok hn s e hs he ha h A
    · exact rb_n m l fr hok hn s e hs he ha h (two_le (by omega) h) A hA (fun s2 e2 h1 h2 h3 h4 A hA => ih (e2 - s2) (by omega) s2 e2 rfl h1 h2 h4 A hA)
theorem rt_0 (m : Nat) (l : List Hx) (fr : Nat → Fq) (hok : TrOk m (hrows (lev l)) fr) (_hn : l.length ≤ 1000) (k : Nat) (hk : k ≤ l.length) (h : k = 0) (A : Facts) (hA : EnvF RC A) : CallR Tryd.prog 13 [.pointer (some ⟨m, 0, none⟩), .int .i64 (k : Int)] A ((treeF m (hrows (lev l)) fr)) (Unit) (fun _ => htV (rootF (l.take k)) true) (fun _ => []) :=
  reads_of_vcF Tryd.mixed good_merkle_Tree_Root (args := [(.pointer (some ⟨m, 0, none⟩), []), (.int .i64 (k : Int), [])]) (B := A) (F := (treeF m (hrows (lev l)) fr)) (O := [.reg [(3, .yes), (4, .yes), (5, .no), (7, .yes), (8, .yes), (9, .rdT 0 Unit () (fun _ => .int .i64 ((l.length : Nat) : Int)) (fun _ => [])), (10, .yes), (11, .no)], .no, .yes, .reg [(0, det (H8 (rootF Hss.nil.l)))]]) (.app ((.refl _)) (.app (.nil _) (.app (.nil _) (.nil _)))) (⟨gff rfl, ⟨gff rfl, ⟨rfl, ⟨gff (lt0_f k), ⟨gff (lt0_f k), ⟨⟨gff (lt0_f k), fun _ g => by subst g; exact callR_op (tlen_r ⟨fr, rfl, hok⟩ _) rfl rfl⟩, fun _ => ⟨gff (lt0_f k), ⟨(lt0_f k), ⟨(gtk_f hk), ⟨(eq_lit h), ⟨c_root_any 0 Hss.nil rfl (Nat.zero_le _) _ (hA.app _) (.nil _), fun _ => ⟨(), (by subst h; rfl), nofun, fun _ g => g, trivial⟩⟩⟩⟩⟩⟩⟩⟩⟩⟩⟩⟩)
theorem rt_1 (m : Nat) (l : List Hx) (fr : Nat → Fq) (hok : TrOk m (hrows (lev l)) fr) (hn : l.length ≤ 1000) (k : Nat) (hk : k ≤ l.length) (h : k ≠ 0) (A : Facts) (hA : EnvF RC A) : CallR Tryd.prog 13 [.pointer (some ⟨m, 0, none⟩), .int .i64 (k : Int)] A ((treeF m (hrows (lev l)) fr)) (Unit) (fun _ => htV (rootF (l.take k)) true) (fun _ => []) :=
  reads_of_vcF Tryd.mixed good_merkle_Tree_Root (args := [(.pointer (some ⟨m, 0, none⟩), []), (.int .i64 (k : Int), [])]) (B := A) (F := (treeF m (hrows (lev l)) fr)) (O := [.reg [(3, .yes), (4, .yes), (5, .no), (7, .yes), (8, .yes), (9, .rdT 0 Unit () (fun _ => .int .i64 ((l.length : Nat) : Int)) (fun _ => [])), (10, .yes), (11, .no)], .no, .no, .reg [(2, .rdT 0 Unit () (fun _ => H8 (part l 0 k)) (fun _ => []))]]) (.app ((.refl _)) (.app (.nil _) (.app (.nil _) (.nil _)))) (⟨gff rfl, ⟨gff rfl, ⟨rfl, ⟨gff (lt0_f k), ⟨gff (lt0_f k), ⟨⟨gff (lt0_f k), fun _ g => by subst g; exact callR_op (tlen_r ⟨fr, rfl, hok⟩ _) rfl rfl⟩, fun _ => ⟨gff (lt0_f k), ⟨(lt0_f k), ⟨(gtk_f hk), ⟨(ne_lit (k := 0) h), ⟨fun _ g => by subst g; exact callR_op (c_rbt m l fr hok hn _ 0 k rfl (by omega) hk (al_0 k) _ (hA.app _)) rfl rfl, fun _ => ⟨(), (by rw [← part_take]; rfl), nofun, fun _ g => g, trivial⟩⟩⟩⟩⟩⟩⟩⟩⟩⟩⟩⟩)
theorem rt_a (m : Nat) (l : List Hx) (fr : Nat → Fq) (_hok : TrOk m (hrows (lev l)) fr) (_hn : l.length ≤ 1000) (k : Int) (h : k < 0) (A : Facts) : CallR Tryd.prog 13 [.pointer (some ⟨m, 0, none⟩), .int .i64 k] A ((treeF m (hrows (lev l)) fr)) (Unit) (fun _ => htV H0 false) (fun _ => []) :=
  reads_of_vcF Tryd.mixed good_merkle_Tree_Root (args := [(.pointer (some ⟨m, 0, none⟩), []), (.int .i64 k, [])]) (B := A) (F := (treeF m (hrows (lev l)) fr)) (O := [.reg [(3, .yes), (4, .yes), (5, .no), (7, .no), (8, .no), (9, .no), (10, .no), (11, .yes)], .yes]) (.app ((.refl _)) (.app (.nil _) (.app (.nil _) (.nil _)))) (⟨gff rfl, ⟨gff rfl, ⟨rfl, ⟨gft (decide_eq_true h), ⟨gft (decide_eq_true h), ⟨gft (decide_eq_true h), ⟨gft (decide_eq_true h), ⟨(decide_eq_true h), ⟨rfl, ⟨(), rfl, nofun, fun _ g => g, trivial⟩⟩⟩⟩⟩⟩⟩⟩⟩⟩)
theorem rt_b (m : Nat) (l : List Hx) (fr : Nat → Fq) (hok : TrOk m (hrows (lev l)) fr) (_hn : l.length ≤ 1000) (k : Int) (h0 : ¬ k < 0) (h : (l.length : Int) < k) (A : Facts) : CallR Tryd.prog 13 [.pointer (some ⟨m, 0, none⟩), .int .i64 k] A ((treeF m (hrows (lev l)) fr)) (Unit) (fun _ => htV H0 false) (fun _ => []) :=
  reads_of_vcF Tryd.mixed good_merkle_Tree_Root (args := [(.pointer (some ⟨m, 0, none⟩), []), (.int .i64 k, [])]) (B := A) (F := (treeF m (hrows (lev l)) fr)) (O := [.reg [(3, .yes), (4, .yes), (5, .no), (7, .yes), (8, .yes), (9, .rdT 0 Unit () (fun _ => .int .i64 ((l.length : Nat) : Int)) (fun _ => [])), (10, .yes), (11, .no)], .yes]) (.app ((.refl _)) (.app (.nil _) (.app (.nil _) (.nil _)))) (⟨gff rfl, ⟨gff rfl, ⟨rfl, ⟨gff (decide_eq_false h0), ⟨gff (decide_eq_false h0), ⟨⟨gff (decide_eq_false h0), fun _ g => by subst g; exact callR_op (tlen_r ⟨fr, rfl, hok⟩ _) rfl rfl⟩, fun _ => ⟨gff (decide_eq_false h0), ⟨(decide_eq_false h0), ⟨(gtk_t h), ⟨(), rfl, nofun, fun _ g => g, trivial⟩⟩⟩⟩⟩⟩⟩⟩⟩⟩)
/-- What Root gives. -/
def rtV (l : List Hx) (k : Int) : Value := if 0 ≤ k ∧ k ≤ (l.length : Int) then htV (rootF (l.take k.toNat)) true else htV H0 false
theorem rt_r {m : Nat} {l : List Hx} {F : Facts} (h : Tr m (hrows (lev l)) F) (hn : l.length ≤ 1000) (k : Int) (A : Facts) (hA : EnvF RC A) : CallR Tryd.prog 13 [.pointer (some ⟨m, 0, none⟩), .int .i64 k] A F Unit (fun _ => rtV l k) (fun _ => []) := by
  obtain ⟨fr, rfl, hok⟩ := h
  unfold rtV
  by_cases h0 : k < 0
  · rw [if_neg (by omega)]; exact rt_a m l fr hok hn k h0 A
  by_cases h1 : (l.length : Int) < k
  · rw [if_neg (by omega)]; exact rt_b m l fr hok hn k h0 h1 A
  obtain ⟨k, rfl⟩ := Int.eq_ofNat_of_zero_le (show 0 ≤ k by omega)
  rw [if_pos (by omega), Int.toNat_natCast]
  by_cases h2 : k = 0
  · exact rt_0 m l fr hok hn k (by omega) h2 A hA
  · exact rt_1 m l fr hok hn k (by omega) h2 A hA
end Go.Proofs.YtgbfolkpgmjaeaaDoor

