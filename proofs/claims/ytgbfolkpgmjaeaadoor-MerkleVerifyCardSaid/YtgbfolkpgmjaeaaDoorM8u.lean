/- Layer 8: the functions on trees: New, Len, Append, Root. Condition, where it is named: the table of round constants holds the round constants. -/
import Derived.Test.YtgbfolkpgmjaeaaDoorM8t
namespace Go.Proofs.YtgbfolkpgmjaeaaDoor
open Go.RowKit Sx
set_option maxRecDepth 100000

theorem lev_nil : lev [] = fun _ => [] := by funext d; simp [lev]
theorem new_tr (m : Nat) : ∀ F, F = [(m, Obj.cells (List.replicate 64 (Value.slice none 0 0)).toArray 50)] → Tr m (hrows (lev [])) F := by
  intro F hF
  subst hF
  refine ⟨fun _ => .inl none, ?_, ⟨fun d _ => ?_, fun _ _ _ h => (by cases h), fun _ _ _ _ _ _ h => (by cases h)⟩⟩
  · unfold treeF
    have e1 : tcells (hrows (lev [])) (fun _ => .inl none) = List.replicate 64 (Value.slice none 0 0) := by
      rw [lev_nil]
      rfl
    rw [e1]
    have e2 : ((List.range 64).flatMap fun d => fqL (hrows (lev []) d) (.inl none)) = [] := by simp [fqL]
    rw [e2]
  · show hcs (lev [] d) = []
    rw [lev_nil]; rfl
theorem len_fin {m : Nat} {cv : Rows} {fr : Nat → Fq} {ls : List Hx} (_hok : TrOk m cv fr) (e : cv 0 = hcs ls) : Value.int .i64 ((lenB (cv 0) 32 : Nat) : Int) = .int .i64 ((ls.length : Nat) : Int) := by rw [e, lenB_h]
theorem lev_d {l : List Hx} {x : Hx} {d : Nat} (h : 2 ^ d ∣ l.length + 1) : putR (hrows (mixl l x d)) d (hcs (mixl l x d d) ++ bsc (part (l ++ [x]) (l.length + 1 - 2 ^ d) (l.length + 1)) 32) d = hcs (lev (l ++ [x]) d) := by
  rw [mix_put l x h]
  show hcs (mixl l x (d + 1) d) = _
  unfold mixl; rw [if_pos (by omega)]
theorem new_len {l : List Hx} {x : Hx} {d : Nat} (h : 2 ^ d ∣ l.length + 1) : lenB (hcs (mixl l x d d) ++ bsc (part (l ++ [x]) (l.length + 1 - 2 ^ d) (l.length + 1)) 32) 32 = (l.length + 1) / 2 ^ d := by
  have := lev_d (x := x) h
  unfold putR at this
  rw [if_pos rfl] at this
  rw [this, lenB_h, lev_len, List.length_append, List.length_singleton]
theorem lt_ten {n d : Nat} (h : 2 ^ d ∣ n + 1) (hn : n ≤ 1000) : d < 10 := by
  have h1 : 2 ^ d ≤ n + 1 := Nat.le_of_dvd (by omega) h
  rcases Nat.lt_or_ge d 10 with h2 | h2
  · exact h2
  · have : 2 ^ 10 ≤ 2 ^ d := Nat.pow_le_pow_right (by decide) h2
    omega
theorem mix_len {l : List Hx} {x : Hx} {d : Nat} (hn : l.length ≤ 1000) : (mixl l x d d).length ≤ 1000000 := by
  unfold mixl
  rw [if_neg (by omega), lev_len]
  have := Nat.div_le_self l.length (2 ^ d); omega
theorem even_dvd {n d : Nat} (h : 2 ^ d ∣ n + 1) {k : Nat} (hk : k = (n + 1) / 2 ^ d) (he : (((k : Int).tmod 2) == 0) = true) : 2 ^ (d + 1) ∣ n + 1 ∧ 2 ≤ k := by
  obtain ⟨c, hc⟩ := h
  have hp : 0 < 2 ^ d := Nat.two_pow_pos d
  have hkc : k = c := by rw [hk, hc, Nat.mul_div_cancel_left _ hp]
  have h1 : c % 2 = 0 := by
    have := eq_of_beq he
    rw [Int.tmod_eq_emod_of_nonneg (by omega)] at this
    omega
  have h2 : 0 < c := by
    rcases Nat.eq_zero_or_pos c with h3 | h3
    · rw [h3] at hc; simp at hc
    · exact h3
  refine ⟨⟨c / 2, ?_⟩, by omega⟩
  rw [hc, Nat.pow_succ, Nat.mul_assoc, show 2 * (c / 2) = c by omega]
theorem odd_dvd {n d : Nat} (_h : 2 ^ d ∣ n + 1) {k : Nat} (hk : k = (n + 1) / 2 ^ d) (he : (((k : Int).tmod 2) == 0) = false) : ¬ 2 ^ (d + 1) ∣ n + 1 := by
  intro h2
  obtain ⟨c, hc⟩ := h2
  have hp : 0 < 2 ^ d := Nat.two_pow_pos d
  have hkc : k = 2 * c := by rw [hk, hc, Nat.pow_succ, Nat.mul_assoc, Nat.mul_div_cancel_left _ hp]
  have := ne_of_beq_false he
  rw [Int.tmod_eq_emod_of_nonneg (by omega)] at this
  omega
theorem node_lv {l : List Hx} {n d k : Nat} (hl : l.length = n) (hk : k = n / 2 ^ d) (h : 2 ^ (d + 1) ∣ n) (h2 : 2 ≤ k) : nodeF ((lev l d).getD (k - 2) H0) ((lev l d).getD (k - 1) H0) = part l (n - 2 ^ (d + 1)) n := by
  obtain ⟨c, hc⟩ := h
  have hp : 0 < 2 ^ d := Nat.two_pow_pos d
  have hkc : k = 2 * c := by rw [hk, hc, Nat.pow_succ, Nat.mul_assoc, Nat.mul_div_cancel_left _ hp]
  have hn : n = k * 2 ^ d := by rw [hc, hkc, Nat.pow_succ, Nat.mul_assoc, Nat.mul_comm (2 ^ d)]
  have e2 : (k - 2) * 2 ^ d + 2 * 2 ^ d = k * 2 ^ d := by rw [← Nat.add_mul]; congr 1; omega
  have e1 : (k - 1) * 2 ^ d + 2 ^ d = k * 2 ^ d := by rw [← Nat.succ_mul]; congr 1; omega
  rw [lev_get l d (k - 2) (by rw [hl, ← hk]; omega), lev_get l d (k - 1) (by rw [hl, ← hk]; omega)]
  have hpow : 2 ^ (d + 1) = 2 * 2 ^ d := by rw [Nat.pow_succ]; omega
  rw [part_cut l (s := n - 2 ^ (d + 1)) (e := n) (by rw [hpow]; omega) (by omega)]
  have e3 : n - (n - 2 ^ (d + 1)) = 2 ^ (d + 1) := by rw [hpow]; omega
  rw [e3, spl_pow]
  rw [show n - 2 ^ (d + 1) = (k - 2) * 2 ^ d by rw [hpow]; omega, show (k - 1) * 2 ^ d = (k - 2) * 2 ^ d + 2 ^ d by omega, show (k - 2) * 2 ^ d + 2 ^ d + 2 ^ d = n by omega]
theorem c_nodeZ {x y z : Hx} (e : nodeF x y = z) (A : Facts) (hA : EnvF RC A) : Gives Tryd.prog 24 [H8 x, H8 y] A Unit (fun _ => H8 z) (fun _ => []) := e ▸ c_nodeF x y A hA
theorem apl_next {m : Nat} {l : List Hx} {x : Hx} {d : Nat} {fr : Nat → Fq} (h : 2 ^ d ∣ l.length + 1) : ∀ F, (F = treeF m (putR (hrows (mixl l x d)) d (hcs (mixl l x d d) ++ bsc (part (l ++ [x]) (l.length + 1 - 2 ^ d) (l.length + 1)) 32)) fr ∧ TrOk m (putR (hrows (mixl l x d)) d (hcs (mixl l x d d) ++ bsc (part (l ++ [x]) (l.length + 1 - 2 ^ d) (l.length + 1)) 32)) fr) → Tr m (hrows (mixl l x (d + 1))) F := by
  rw [mix_put l x h]
  exact fun F g => ⟨fr, g⟩
theorem apl_end {m : Nat} {l : List Hx} {x : Hx} {d : Nat} {fr : Nat → Fq} (h : 2 ^ d ∣ l.length + 1) (h2 : ¬ 2 ^ (d + 1) ∣ l.length + 1) : ∀ F, (F = treeF m (putR (hrows (mixl l x d)) d (hcs (mixl l x d d) ++ bsc (part (l ++ [x]) (l.length + 1 - 2 ^ d) (l.length + 1)) 32)) fr ∧ TrOk m (putR (hrows (mixl l x d)) d (hcs (mixl l x d d) ++ bsc (part (l ++ [x]) (l.length + 1 - 2 ^ d) (l.length + 1)) 32)) fr) → Tr m (hrows (lev (l ++ [x]))) F := by
  intro F g
  rw [← mix_end l x h2]
  exact apl_next h F g
theorem put_O (fr : Nat → Fq) (d : Nat) {c : List Value} (y : FrX c) : fqO (putQ fr d (frQ y) d) = frO y := by unfold putQ; rw [if_pos rfl, frQ_O]
theorem part_last (l : List Hx) (x : Hx) : part (l ++ [x]) (l.length + 1 - 2 ^ 0) (l.length + 1) = x := by
  rw [show l.length + 1 - 2 ^ 0 = l.length by rfl, part_1 _ (by simp)]
  simp [List.getD]
theorem lev_0 (l : List Hx) : lev l 0 = l := by
  apply List.ext_getElem?
  intro j
  by_cases h : j < l.length
  · have h1 := lev_get l 0 j (by simpa using h)
    rw [Nat.pow_zero, Nat.mul_one, part_1 l h] at h1
    have hl : j < (lev l 0).length := by rw [lev_len]; simpa using h
    rw [List.getElem?_eq_getElem hl, List.getElem?_eq_getElem h]
    simp only [List.getD, List.getElem?_eq_getElem hl, List.getElem?_eq_getElem h, Option.getD_some] at h1
    rw [h1]
  · rw [List.getElem?_eq_none (by rw [lev_len]; simp; omega), List.getElem?_eq_none (by omega)]
theorem new_le {l : List Hx} {x : Hx} {d : Nat} (h : 2 ^ d ∣ l.length + 1) (hn : l.length ≤ 1000) : lenB (hcs (mixl l x d d) ++ bsc (part (l ++ [x]) (l.length + 1 - 2 ^ d) (l.length + 1)) 32) 32 ≤ 9223372036854775807 := by
  rw [new_len h]
  have := Nat.div_le_self (l.length + 1) (2 ^ d); omega
theorem fr_some {c : List Value} (y : FrX c) (h : c ≠ []) : ∃ a, frO y = some a := by
  cases y with
  | inl q => exact absurd q.1.down h
  | inr q => exact ⟨_, rfl⟩
theorem apl_idx {l : List Hx} {x : Hx} {d k : Nat} (_h : 2 ^ d ∣ l.length + 1) (y : FrX (hcs (mixl l x d d) ++ bsc (part (l ++ [x]) (l.length + 1 - 2 ^ d) (l.length + 1)) 32)) (hk : 1 ≤ k) (h2 : 2 ≤ lenB (hcs (mixl l x d d) ++ bsc (part (l ++ [x]) (l.length + 1 - 2 ^ d) (l.length + 1)) 32) 32) :
    idxOk (frO y) ((lenB (hcs (mixl l x d d) ++ bsc (part (l ++ [x]) (l.length + 1 - 2 ^ d) (l.length + 1)) 32) 32 - k : Nat) : Int) (lenB (hcs (mixl l x d d) ++ bsc (part (l ++ [x]) (l.length + 1 - 2 ^ d) (l.length + 1)) 32) 32 : Nat) := by
  obtain ⟨a, ha⟩ := fr_some y (fun e => by rw [e] at h2; exact absurd h2 (by decide))
  rw [ha]
  exact ⟨Int.natCast_nonneg _, by omega⟩
theorem good_merkle_New : Good Tryd.prog 10 Tryd.f10 0 := ⟨Tryd.func10, by kernel_rfl, by kernel_rfl⟩
theorem good_merkle_Tree_Append : Good Tryd.prog 11 Tryd.f11 2 := ⟨Tryd.func11, by kernel_rfl, by kernel_rfl⟩
theorem good_merkle_Tree_Len : Good Tryd.prog 12 Tryd.f12 1 := ⟨Tryd.func12, by kernel_rfl, by kernel_rfl⟩
theorem good_merkle_Tree_Root : Good Tryd.prog 13 Tryd.f13 2 := ⟨Tryd.func13, by kernel_rfl, by kernel_rfl⟩
theorem good_merkle_Tree_Proof : Good Tryd.prog 17 Tryd.f17 3 := ⟨Tryd.func17, by kernel_rfl, by kernel_rfl⟩
theorem good_merkle_Tree_appendToLevel : Good Tryd.prog 25 Tryd.f25 3 := ⟨Tryd.func25, by kernel_rfl, by kernel_rfl⟩
theorem good_merkle_Tree_rootBetween : Good Tryd.prog 26 Tryd.f26 3 := ⟨Tryd.func26, by kernel_rfl, by kernel_rfl⟩
theorem good_Rev : Good Tryd.prog 32 Tryd.f32 1 := ⟨Tryd.func32, by kernel_rfl, by kernel_rfl⟩
theorem c_new (A : Facts) : CallT Tryd.prog 10 [] A (fun G => G = []) (Nat) (fun m => .pointer (some ⟨m, 0, none⟩)) (fun _ => []) (fun m => Tr m (hrows (lev []))) :=
  givesT_of_vcF Tryd.mixed good_merkle_New (args := []) (B := A) (O := [.pubt 1000000 2 0 (fun _ => [])]) (.app ((.refl _)) (.nil _)) (fun p => ⟨p, rfl, nofun, new_tr p, trivial⟩)
theorem c_tlen (m : Nat) (cv : Rows) (fr : Nat → Fq) (ls : List Hx) (hok : TrOk m cv fr) (e : cv 0 = hcs ls) (A : Facts) : CallR Tryd.prog 12 [.pointer (some ⟨m, 0, none⟩)] A ((treeF m cv fr)) (Unit) (fun _ => .int .i64 ((ls.length : Nat) : Int)) (fun _ => []) :=
  reads_of_vcF Tryd.mixed good_merkle_Tree_Len (args := [(.pointer (some ⟨m, 0, none⟩), [])]) (B := A) (F := (treeF m cv fr)) (O := [.no, .opt 3 [(2, .ld (.pointer (some ⟨m, 0, none⟩))), (3, .ld (.pointer (some ⟨m, 0, none⟩))), (4, .rdT 0 Unit () (fun _ => tcell cv fr 0) (fun _ => []))]]) (.app ((.refl _)) (.app (.nil _) (.nil _))) (⟨rfl, ⟨ld_f0 m _, ⟨ld_ix m (d := 0) (by decide) _, ⟨fun _ g => by subst g; exact rd_cell (by decide), fun _ => ⟨(), len_fin hok e, nofun, fun _ g => g, trivial⟩⟩⟩⟩⟩)
theorem tlen_r {m : Nat} {l : List Hx} {F : Facts} (h : Tr m (hrows (lev l)) F) (A : Facts) : CallR Tryd.prog 12 [.pointer (some ⟨m, 0, none⟩)] A F Unit (fun _ => .int .i64 ((l.length : Nat) : Int)) (fun _ => []) := by
  obtain ⟨fr, rfl, hok⟩ := h
  exact c_tlen m _ fr l hok (by show hcs (lev l 0) = _; rw [lev_0]) A
theorem apl_1 (m d : Nat) (l : List Hx) (x : Hx) (fr : Nat → Fq) (hok : TrOk m (hrows (mixl l x d)) fr) (hd : 2 ^ d ∣ l.length + 1) (hn : l.length ≤ 1000) (A : Facts) (hA : EnvF RC A) (IH : ∀ A, EnvF RC A → 2 ^ (d + 1) ∣ l.length + 1 → CallT Tryd.prog 25 [.pointer (some ⟨m, 0, none⟩), .int .i64 ((d + 1 : Nat) : Int), H8 (part (l ++ [x]) (l.length + 1 - 2 ^ (d + 1)) (l.length + 1))] A (Tr m (hrows (mixl l x (d + 1)))) Unit (fun _ => .tuple #[]) (fun _ => []) (fun _ => Tr m (hrows (lev (l ++ [x]))))) : CallT Tryd.prog 25 [.pointer (some ⟨m, 0, none⟩), .int .i64 (d : Int), H8 (part (l ++ [x]) (l.length + 1 - 2 ^ d) (l.length + 1))] A (fun G => G = treeF m (hrows (mixl l x d)) fr) (Unit) (fun _ => .tuple #[]) (fun _ => []) (fun _ => Tr m (hrows (lev (l ++ [x])))) :=
  givesT_of_vcF Tryd.mixed good_merkle_Tree_appendToLevel (args := [(.pointer (some ⟨m, 0, none⟩), []), (.int .i64 (d : Int), []), (H8 (part (l ++ [x]) (l.length + 1 - 2 ^ d) (l.length + 1)), [])]) (B := A) (O := [.opt 1 [(3, .ld (.pointer (some ⟨m, 0, none⟩))), (4, .ld (.pointer (some ⟨m, d, none⟩))), (5, .rdT 0 Unit () (fun _ => tcell (hrows (mixl l x d)) fr d) (fun _ => [])), (6, .ld (H8 (part (l ++ [x]) (l.length + 1 - 2 ^ d) (l.length + 1)))), (7, .call Nat 0 (fun m => .slice (some ⟨m, 0, none⟩) 1 1) (fun m => [(m, .cells (bsc (part (l ++ [x]) (l.length + 1 - 2 ^ d) (l.length + 1)) 32).toArray 28)])), (8, .thg 0 (FrX ((hcs (mixl l x d d)) ++ bsc (part (l ++ [x]) (l.length + 1 - 2 ^ d) (l.length + 1)) 32)) (.inr (0, [])) (fun y => .slice (frO y) (lenB ((hcs (mixl l x d d)) ++ bsc (part (l ++ [x]) (l.length + 1 - 2 ^ d) (l.length + 1)) 32) 32) (frC 32 y)) (fun _ => []) (fun y F => F = midF m (hrows (mixl l x d)) fr d (frL 28 y) ∧ FrOk 32 y ∧ Sep m (hrows (mixl l x d)) fr d (frL 28 y)))], .gen 2 (FrX ((hcs (mixl l x d d)) ++ bsc (part (l ++ [x]) (l.length + 1 - 2 ^ d) (l.length + 1)) 32)) (fun y => ⟨43, [(0, .v (.pointer (some ⟨m, 0, none⟩)) []), (1, .v (.int .i64 (d : Int)) []), (6, .v (.slice (frO y) (lenB ((hcs (mixl l x d d)) ++ bsc (part (l ++ [x]) (l.length + 1 - 2 ^ d) (l.length + 1)) 32) 32) (frC 32 y)) [])], [], 40⟩) (fun y => [(0, fun F => F = midF m (hrows (mixl l x d)) fr d (frL 28 y) ∧ FrOk 32 y ∧ Sep m (hrows (mixl l x d)) fr d (frL 28 y))]) (fun y => [.opt 2 [(4, .ld (.pointer (some ⟨m, 0, none⟩))), (5, .ld (.pointer (some ⟨m, d, none⟩))), (6, .thg 0 Unit () (fun _ => undef) (fun _ => []) (fun _ F => F = treeF m (putR (hrows (mixl l x d)) d ((hcs (mixl l x d d)) ++ bsc (part (l ++ [x]) (l.length + 1 - 2 ^ d) (l.length + 1)) 32)) (putQ fr d (frQ y)) ∧ TrOk m (putR (hrows (mixl l x d)) d ((hcs (mixl l x d d)) ++ bsc (part (l ++ [x]) (l.length + 1 - 2 ^ d) (l.length + 1)) 32)) (putQ fr d (frQ y))))], .both [.reg [(2, .ld (.int .i64 ((d + 1 : Nat) : Int))), (5, .ld (.int .i64 (((lenB ((hcs (mixl l x d d)) ++ bsc (part (l ++ [x]) (l.length + 1 - 2 ^ d) (l.length + 1)) 32) 32) - 2 : Nat) : Int))), (7, .rdT 0 Unit () (fun _ => H8 ((lev (l ++ [x]) d).getD ((lenB ((hcs (mixl l x d d)) ++ bsc (part (l ++ [x]) (l.length + 1 - 2 ^ d) (l.length + 1)) 32) 32) - 2) H0)) (fun _ => [])), (10, .ld (.int .i64 (((lenB ((hcs (mixl l x d d)) ++ bsc (part (l ++ [x]) (l.length + 1 - 2 ^ d) (l.length + 1)) 32) 32) - 1 : Nat) : Int))), (12, .rdT 0 Unit () (fun _ => H8 ((lev (l ++ [x]) d).getD ((lenB ((hcs (mixl l x d d)) ++ bsc (part (l ++ [x]) (l.length + 1 - 2 ^ d) (l.length + 1)) 32) 32) - 1) H0)) (fun _ => [])), (13, det (H8 (part (l ++ [x]) (l.length + 1 - 2 ^ (d + 1)) (l.length + 1)))), (14, .thg 0 Unit () (fun _ => .tuple #[]) (fun _ => []) (fun _ => Tr m (hrows (lev (l ++ [x])))))]] []])]) (.app ((.refl _)) (.app (.nil _) (.app (.nil _) (.app (.nil _) (.nil _))))) (⟨ld_f0 m _, ⟨ld_ix m (by have := lt_ten hd hn; omega) _, ⟨fun _ g => by subst g; exact rd_cell (by have := lt_ten hd hn; omega), fun _ => ⟨ld_h32 _, ⟨build_h (part (l ++ [x]) (l.length + 1 - 2 ^ d) (l.length + 1)) _, fun r => ⟨app_tree (r := r) hok (by have := lt_ten hd hn; omega) rfl (mix_len hn) (by intro z h; simp at h; simp [h]), fun w => ⟨⟨w, ⟨rfl, ⟨⟨rfl, nofun⟩, ⟨rfl, nofun⟩, ⟨rfl, nofun⟩, trivial⟩, trivial⟩, ⟨fun _ g => g, trivial⟩⟩, fun y => ⟨ld_f0 m _, ⟨ld_ix m (by have := lt_ten hd hn; omega) _, ⟨store_tree hok (by have := lt_ten hd hn; omega), fun _ => ⟨⟨by decide, rfl⟩, ⟨fun h => ⟨ld_add (add_nat (b := 1) (by have := lt_ten hd hn; omega)) _, ⟨ld_sub (sub_nat (b := 2) (even_dvd hd (new_len hd) h).2 (new_le hd hn)) _, ⟨apl_idx hd y (k := 2) (by decide) (even_dvd hd (new_len hd) h).2, ⟨fun _ g => by obtain ⟨rfl, hok2⟩ := g; exact rd_lv hok2 (by have := lt_ten hd hn; omega) (lev_d hd) (put_O fr d y) ((lenB ((hcs (mixl l x d d)) ++ bsc (part (l ++ [x]) (l.length + 1 - 2 ^ d) (l.length + 1)) 32) 32) - 2) rfl (by rw [lev_len, List.length_append, List.length_singleton, new_len hd]; have := (even_dvd hd (new_len hd) h).2; rw [new_len hd] at this; omega), fun _ => ⟨ld_sub (sub_nat (b := 1) (Nat.le_trans (by decide) (even_dvd hd (new_len hd) h).2) (new_le hd hn)) _, ⟨apl_idx hd y (k := 1) (by decide) (even_dvd hd (new_len hd) h).2, ⟨fun _ g => by obtain ⟨rfl, hok2⟩ := g; exact rd_lv hok2 (by have := lt_ten hd hn; omega) (lev_d hd) (put_O fr d y) ((lenB ((hcs (mixl l x d d)) ++ bsc (part (l ++ [x]) (l.length + 1 - 2 ^ d) (l.length + 1)) 32) 32) - 1) rfl (by rw [lev_len, List.length_append, List.length_singleton, new_len hd]; have := (even_dvd hd (new_len hd) h).2; rw [new_len hd] at this; omega), fun _ => ⟨c_nodeZ (node_lv (l := l ++ [x]) (by simp) (new_len hd) (even_dvd hd (new_len hd) h).1 (even_dvd hd (new_len hd) h).2) _ (hA.app _), fun _ => ⟨callT_op ((IH _ (hA.app _) (even_dvd hd (new_len hd) h).1).mono (apl_next hd) (fun _ _ g => g) (.refl _)) rfl rfl, fun _ => ⟨(), rfl, nofun, fun _ h => h, trivial⟩⟩⟩⟩⟩⟩⟩⟩⟩⟩, fun h => ⟨(), rfl, nofun, apl_end hd (odd_dvd hd (new_len hd) h), trivial⟩⟩⟩⟩⟩⟩⟩⟩⟩⟩⟩⟩⟩)
theorem c_apl (m : Nat) (l : List Hx) (x : Hx) (hn : l.length ≤ 1000) : ∀ (k d : Nat), d + k = 10 → 2 ^ d ∣ l.length + 1 → ∀ A, EnvF RC A → CallT Tryd.prog 25 [.pointer (some ⟨m, 0, none⟩), .int .i64 (d : Int), H8 (part (l ++ [x]) (l.length + 1 - 2 ^ d) (l.length + 1))] A (Tr m (hrows (mixl l x d))) Unit (fun _ => .tuple #[]) (fun _ => []) (fun _ => Tr m (hrows (lev (l ++ [x])))) := by
  intro k
  induction k with
  | zero => intro d h1 h2; exact absurd (lt_ten h2 hn) (by omega)
  | succ k ih =>
    intro d h1 hd A hA
    refine callT_of fun F hF => ?_
    obtain ⟨fr, rfl, hok⟩ := hF
    exact apl_1 m d l x fr hok hd hn A hA (fun A hA h => ih (d + 1) (by omega) h A hA)
theorem c_apl0 (m : Nat) (l : List Hx) (x : Hx) (hn : l.length ≤ 1000) (A : Facts) (hA : EnvF RC A) : CallT Tryd.prog 25 [.pointer (some ⟨m, 0, none⟩), .int .i64 0, H8 x] A (Tr m (hrows (lev l))) Unit (fun _ => .tuple #[]) (fun _ => []) (fun _ => Tr m (hrows (lev (l ++ [x])))) := by
  have := c_apl m l x hn 10 0 rfl (by simp) A hA
  rw [mix_0, part_last] at this
  exact this
theorem c_tapp (m : Nat) (l : List Hx) (x : Hx) (hn : l.length ≤ 1000) (A : Facts) (hA : EnvF RC A) : CallT Tryd.prog 11 [.pointer (some ⟨m, 0, none⟩), H8 x] A (Tr m (hrows (lev l))) (Unit) (fun _ => .int .i64 ((l.length : Nat) : Int)) (fun _ => []) (fun _ => Tr m (hrows (lev (l ++ [x])))) :=
  givesT_of_vcF Tryd.mixed good_merkle_Tree_Append (args := [(.pointer (some ⟨m, 0, none⟩), []), (H8 x, [])]) (B := A) (O := [.no, .reg [(1, .rdT 0 Unit () (fun _ => .int .i64 ((l.length : Nat) : Int)) (fun _ => []))], .reg [(1, .ld (H8 x)), (2, .thg 0 Unit () (fun _ => .tuple #[]) (fun _ => []) (fun _ => Tr m (hrows (lev (l ++ [x])))))]]) (.app ((.refl _)) (.app (.nil _) (.app (.nil _) (.nil _)))) (⟨rfl, ⟨fun _ g => callR_op (tlen_r g _) rfl rfl, fun _ => ⟨ld_h32 x, ⟨callT_op (c_apl0 m l x hn _ (hA.app _)) rfl rfl, fun _ => ⟨(), rfl, nofun, fun _ g => g, trivial⟩⟩⟩⟩⟩)
end Go.Proofs.YtgbfolkpgmjaeaaDoor

