/- Package wire over this translation: what its functions read. No conditions. -/
import Derived.Test.YtfpigcaihmlelaaW6p
import Derived.Test.YtfpigcaihmlelaaW6n
namespace Go.Proofs.Ytfpigcaihmlelaa
open Go.RowKit Sx
set_option maxRecDepth 100000

theorem c_sig_no (y : Byt) (m : Nat) (A : Facts) (hy : Sub y.L A) (h : sigOk y.l m = false) : Gives Try.prog 42 [y.v, .int .i64 (m : Int)] A Unit (fun _ => .tuple #[.slice none 0 0, .bool false]) (fun _ => []) := by
  have hl := y.hl
  by_cases h0 : y.n = 0
  · exact c_sig_a y m A hy h0
  by_cases h1 : (m : Int) < ((y.l.getD 0 0).toNat : Int)
  · exact c_sig_b y m A hy (by omega) h1
  by_cases h2 : y.n - 1 < (y.l.getD 0 0).toNat
  · exact c_sig_c y m A hy (by omega) (by omega) h2
  by_cases h3 : (y.l.getD 0 0).toNat = 0
  · rw [sigOk_iff.2 ⟨by omega, by unfold sigC; omega, by unfold sigC; omega, .inl h3⟩] at h; cases h
  by_cases h4 : (y.l.getD 1 0).toNat = 0
  · exact c_sig_d y m A hy (by omega) (by omega) (by omega) (by omega) h4
  · rw [sigOk_iff.2 ⟨by omega, by unfold sigC; omega, by unfold sigC; omega, .inr (by omega)⟩] at h; cases h
theorem c_sig_yes (y : Byt) (m : Nat) (A : Facts) (hy : Sub y.L A) (h0 : 0 < y.n) (h1 : sigC y.l ≤ m) (h2 : sigC y.l ≤ y.n - 1) (h3 : sigC y.l = 0 ∨ 0 < (y.l.getD 1 0).toNat) : Gives Try.prog 42 [y.v, .int .i64 (m : Int)] A Unit (fun _ => .tuple #[(y.sig h0 (sigC y.l) h2).v, .bool true]) (fun _ => y.L) := by
  by_cases h4 : sigC y.l = 0
  · exact c_sig_e y m A hy h0 (by unfold sigC at *; omega) h2 h4
  · exact c_sig_f y m A hy h0 (by unfold sigC at *; omega) h2 (by unfold sigC at *; omega) (by omega)
theorem Byt.sig_l (y : Byt) (h : 0 < y.n) (c : Nat) (hc : c ≤ y.n - 1) : (y.sig h c hc).l = (y.l.drop 1).take c := by
  show ((((y.l.drop 1).take (y.n - 1)).drop 0).take (c - 0)) = _
  rw [List.drop_zero, Nat.sub_zero, List.take_take, Nat.min_eq_left hc]
theorem Byt.sig_n (y : Byt) (h : 0 < y.n) (c : Nat) (hc : c ≤ y.n - 1) : (y.sig h c hc).n = c := rfl
theorem Byt.sig_sub (y : Byt) {k : Nat} (h : k ≤ y.n) (h0 : 0 < (y.sub k y.n h (Nat.le_refl _)).n) (c : Nat) (h2 : c ≤ (y.sub k y.n h (Nat.le_refl _)).n - 1) : ((y.sub k y.n h (Nat.le_refl _)).sig h0 c h2).l = (y.l.drop (k + 1)).take c := by
  rw [Byt.sig_l, y.sub_n h, List.drop_drop]
theorem isoff_in {k n : Nat} (h : k ≤ n) : (decide ((0 : Int) ≤ (k : Int)) && decide ((k : Int) ≤ (n : Int))) = true := by simp; omega
theorem isoff_out {z : Int} {n : Nat} (h : ¬ (0 ≤ z ∧ z ≤ (n : Int))) : (!(decide (0 ≤ z) && decide (z ≤ (n : Int)))) = true := by
  simp only [Bool.not_eq_true', Bool.and_eq_false_iff, decide_eq_false_iff_not]; omega
theorem isoff_in' {k n : Nat} (h : k ≤ n) : (!(decide ((0 : Int) ≤ (k : Int)) && decide ((k : Int) ≤ (n : Int)))) = false := by rw [isoff_in h]; rfl
theorem Byt.cutk (y : Byt) {k : Nat} (h : k ≤ y.n) : (0 : Int) ≤ (k : Int) ∧ (k : Int) ≤ (y.n : Int) ∧ (y.n : Int) ≤ (y.cap : Int) := by have := y.hc; omega
theorem rdn_fin {l : List UInt8} {k m c : Nat} {s : List UInt8} (h : k ≤ l.length) (hs : sigOk (l.drop k) m = true) (hc : c = sigC (l.drop k)) (e : s = (l.drop (k + 1)).take c) (hN : l.length < 4611686018427387904) :
    Value.tuple #[U (be s), .int .i64 (IntKind.i64.wrap (IntKind.i64.wrap ((k : Int) + 1) + (c : Int))), .int .i64 0] = rdV (rdn l k m) := by
  have h1 := (sigOk_iff.1 hs).2.2.1
  have h2 := (sigOk_iff.1 hs).1
  rw [List.length_drop] at h1 h2
  rw [rdn_yes h hs, add2 (by omega)]
  subst e; subst hc
  rfl

theorem good_wire_fromBigEndian : Good Try.prog 43 Try.f43 1 := ⟨Try.func43, by kernel_rfl, by kernel_rfl⟩
theorem c_fbe (y : Byt) (hn : y.n ≤ 32) (A : Facts) (hy : Sub y.L A) : Gives Try.prog 43 [y.v] A (Unit) (fun _ => U (be y.l)) (fun _ => []) :=
  gives_of_vcF Try.mixed good_wire_fromBigEndian (args := [(y.v, y.L)]) (B := []) (O := [.inv (Upto y.n) (fun x : Upto y.n => ⟨33, [(0, .v y.v y.L), (2, .p 0 0), (3, .p 1 0), (7, .v y.v y.L), (8, .v (.int .i64 (y.n : Int)) []), (9, .v (.int .i64 (x.1 : Int)) [])], [(0, ⟨25, [.int .u64 0, .int .u64 0, .int .u64 0, .int .u64 0], []⟩), (1, ⟨25, cU (beP y.l x.1), []⟩)], 10⟩) (fun x => y.n - x.1) (fun x => [.both [.opt 4 [(2, .ld (.int .u8 ((y.l.getD x.1 0).toNat : Int)))], .opt 5 [(4, .ld (.int .i64 (((y.n - 1 - x.1) : Nat) : Int)))], .opt 6 [(3, .ld (.int .u64 (limb (be (y.l.take x.1) * 256 ^ ((y.n - 1 - x.1) + 1)) ((y.n - 1 - x.1) / 8)))), (5, .ld (.int .u64 ((y.l.getD x.1 0).toNat : Int))), (10, .ld (.int .u64 (limb (be (y.l.take x.1) * 256 ^ ((y.n - 1 - x.1) + 1) + (y.l.getD x.1 0).toNat * 256 ^ (y.n - 1 - x.1)) ((y.n - 1 - x.1) / 8)))), (12, .mk 0)]] []])]) (.app (.nil _) (.app (hy) (.nil _))) (⟨⟨⟨0, Nat.zero_le _⟩, rfl, ⟨⟨rfl, fun _ h => h⟩, ⟨rfl, rfl, rfl⟩, ⟨rfl, rfl, rfl⟩, ⟨rfl, fun _ h => h⟩, ⟨rfl, nofun⟩, ⟨rfl, nofun⟩, trivial⟩, ⟨rfl, rfl, nofun⟩, ⟨rfl, cU_zero _, nofun⟩, trivial⟩, fun x => ⟨fun h => ⟨y.idx (by omega) (Int.ofNat_lt.2 (lt_t h)), ⟨y.load x.1 rfl (lt_t h) (by intro q h; simp [h]), ⟨ld_sub (sub2 (lt_t h) (by omega)) _, ⟨⟨by decide, rfl⟩, ⟨quo8_4 (by have := lt_t h; omega), ⟨fb_get y.hl (lt_t h) hn, ⟨ld_u8_64 _ _, ⟨⟨by decide, rfl⟩, ⟨rem8_0, ⟨ld_or _, ⟨quo8_4 (by have := lt_t h; omega), ⟨cell_in _ (by have := lt_t h; omega), ⟨⟨x.1 + 1, lt_t h⟩, (by have := lt_t h; show y.n - (x.1 + 1) < y.n - x.1; omega), rfl, ⟨⟨rfl, fun _ h => h⟩, ⟨rfl, rfl, rfl⟩, ⟨rfl, rfl, rfl⟩, ⟨rfl, fun _ h => h⟩, ⟨rfl, nofun⟩, ⟨congrArg _ (add1 (by have := lt_t h; omega)), nofun⟩, trivial⟩, ⟨rfl, rfl, nofun⟩, ⟨rfl, fb_put y.hl (lt_t h) hn, nofun⟩, trivial⟩⟩⟩⟩⟩⟩⟩⟩⟩⟩⟩⟩⟩, fun h => ⟨(), fb_fin y.hl h x.2, nofun⟩⟩⟩)
theorem good_wire_readNumber : Good Try.prog 35 Try.f35 3 := ⟨Try.func35, by kernel_rfl, by kernel_rfl⟩
theorem c_rdn_a (y : Byt) (z : Int) (m : Nat) (A : Facts) (hy : Sub y.L A) (h : ¬ (0 ≤ z ∧ z ≤ (y.n : Int))) : Gives Try.prog 35 [y.v, .int .i64 z, .int .i64 (m : Int)] A (Unit) (fun _ => rdV (rdn y.l z m)) (fun _ => []) :=
  gives_of_vcF Try.mixed good_wire_readNumber (args := [(y.v, y.L), (.int .i64 z, []), (.int .i64 (m : Int), [])]) (B := []) (O := [.reg [(2, det (.bool (decide (0 ≤ z) && decide (z ≤ (y.n : Int)))))], .yes]) (.app (.nil _) (.app (hy) (.app (.nil _) (.app (.nil _) (.nil _))))) (⟨c_isoff y z _ (by intro q h; simp [h]), fun _ => ⟨(isoff_out h), ⟨(), (rd_z 2).trans (congrArg rdV (rdn_inv (by rw [y.hl]; exact h)).symm), nofun⟩⟩⟩)
theorem c_rdn_b (y : Byt) (k : Nat) (m : Nat) (A : Facts) (hy : Sub y.L A) (h : k ≤ y.n) (hs : sigOk (y.l.drop k) m = false) : Gives Try.prog 35 [y.v, .int .i64 (k : Int), .int .i64 (m : Int)] A (Unit) (fun _ => rdV (rdn y.l k m)) (fun _ => []) :=
  gives_of_vcF Try.mixed good_wire_readNumber (args := [(y.v, y.L), (.int .i64 (k : Int), []), (.int .i64 (m : Int), [])]) (B := []) (O := [.reg [(2, det (.bool (decide (0 ≤ (k : Int)) && decide ((k : Int) ≤ (y.n : Int)))))], .no, .reg [(4, .call Unit () (fun _ => .tuple #[.slice none 0 0, .bool false]) (fun _ => []))], .yes]) (.app (.nil _) (.app (hy) (.app (.nil _) (.app (.nil _) (.nil _))))) (⟨c_isoff y (k : Int) _ (by intro q h; simp [h]), fun _ => ⟨(isoff_in' h), ⟨y.cutk h, ⟨c_sig_no (y.sub k y.n h (Nat.le_refl _)) m _ (by intro q h; have h : q ∈ y.L := h; simp [h]) (by rw [y.sub_n h]; exact hs), fun _ => ⟨rfl, ⟨(), (rd_z 3).trans (congrArg rdV (rdn_no (by rw [y.hl]; exact h) hs).symm), nofun⟩⟩⟩⟩⟩⟩)
theorem c_rdn_c (y : Byt) (k : Nat) (m : Nat) (A : Facts) (hy : Sub y.L A) (h : k ≤ y.n) (hN : y.n < 4611686018427387904) (hs : sigOk (y.l.drop k) m = true) (h0 : 0 < (y.sub k y.n h (Nat.le_refl _)).n) (h1 : sigC (y.sub k y.n h (Nat.le_refl _)).l ≤ m) (h2 : sigC (y.sub k y.n h (Nat.le_refl _)).l ≤ (y.sub k y.n h (Nat.le_refl _)).n - 1) (h3 : sigC (y.sub k y.n h (Nat.le_refl _)).l = 0 ∨ 0 < ((y.sub k y.n h (Nat.le_refl _)).l.getD 1 0).toNat) (hm : m ≤ 32) : Gives Try.prog 35 [y.v, .int .i64 (k : Int), .int .i64 (m : Int)] A (Unit) (fun _ => rdV (rdn y.l k m)) (fun _ => []) :=
  gives_of_vcF Try.mixed good_wire_readNumber (args := [(y.v, y.L), (.int .i64 (k : Int), []), (.int .i64 (m : Int), [])]) (B := []) (O := [.reg [(2, det (.bool (decide (0 ≤ (k : Int)) && decide ((k : Int) ≤ (y.n : Int)))))], .no, .reg [(4, .call Unit () (fun _ => .tuple #[((y.sub k y.n h (Nat.le_refl _)).sig h0 (sigC (y.sub k y.n h (Nat.le_refl _)).l) h2).v, .bool true]) (fun _ => y.L))], .no, .reg [(1, det (U (be ((y.sub k y.n h (Nat.le_refl _)).sig h0 (sigC (y.sub k y.n h (Nat.le_refl _)).l) h2).l)))]]) (.app (.nil _) (.app (hy) (.app (.nil _) (.app (.nil _) (.nil _))))) (⟨c_isoff y (k : Int) _ (by intro q h; simp [h]), fun _ => ⟨(isoff_in' h), ⟨y.cutk h, ⟨c_sig_yes (y.sub k y.n h (Nat.le_refl _)) m _ (by intro q h; have h : q ∈ y.L := h; simp [h]) h0 h1 h2 h3, fun _ => ⟨rfl, ⟨c_fbe ((y.sub k y.n h (Nat.le_refl _)).sig h0 (sigC (y.sub k y.n h (Nat.le_refl _)).l) h2) (Nat.le_trans h1 hm) _ (by intro q h; have h : q ∈ y.L := h; simp [h]), fun _ => ⟨(), rdn_fin (by rw [y.hl]; exact h) hs (congrArg sigC (y.sub_n h)) (y.sig_sub h h0 _ h2) (by rw [y.hl]; exact hN), nofun⟩⟩⟩⟩⟩⟩⟩)
theorem sub_sig (y : Byt) {k m : Nat} (h : k ≤ y.n) (hs : sigOk (y.l.drop k) m = true) : 0 < (y.sub k y.n h (Nat.le_refl _)).n ∧ sigC (y.sub k y.n h (Nat.le_refl _)).l ≤ m ∧ sigC (y.sub k y.n h (Nat.le_refl _)).l ≤ (y.sub k y.n h (Nat.le_refl _)).n - 1 ∧ (sigC (y.sub k y.n h (Nat.le_refl _)).l = 0 ∨ 0 < ((y.sub k y.n h (Nat.le_refl _)).l.getD 1 0).toNat) := by
  rw [y.sub_n h, show (y.sub k y.n h (Nat.le_refl _)).n = (y.l.drop k).length by rw [List.length_drop, y.hl]; rfl]
  exact sigOk_iff.1 hs
theorem c_rdn (y : Byt) (z : Int) (m : Nat) (hm : m ≤ 32) (hN : y.n < 4611686018427387904) (A : Facts) (hy : Sub y.L A) : Gives Try.prog 35 [y.v, .int .i64 z, .int .i64 (m : Int)] A Unit (fun _ => rdV (rdn y.l z m)) (fun _ => []) := by
  by_cases h : 0 ≤ z ∧ z ≤ (y.n : Int)
  · obtain ⟨k, rfl⟩ := Int.eq_ofNat_of_zero_le h.1
    have hk : k ≤ y.n := by omega
    cases hs : sigOk (y.l.drop k) m with
    | false => exact c_rdn_b y k m A hy hk hs
    | true =>
      obtain ⟨h0, h1, h2, h3⟩ := sub_sig y hk hs
      exact c_rdn_c y k m A hy hk hN hs h0 h1 h2 h3 hm
  · exact c_rdn_a y z m A hy h

theorem good_wire_ReadUint256 : Good Try.prog 20 Try.f20 2 := ⟨Try.func20, by kernel_rfl, by kernel_rfl⟩
theorem good_wire_ReadUint64 : Good Try.prog 22 Try.f22 2 := ⟨Try.func22, by kernel_rfl, by kernel_rfl⟩
theorem c_r256 (y : Byt) (z : Int) (hN : y.n < 4611686018427387904) (A : Facts) (hy : Sub y.L A) : Gives Try.prog 20 [y.v, .int .i64 z] A (Unit) (fun _ => rdV (rdn y.l z 32)) (fun _ => []) :=
  gives_of_vcF Try.mixed good_wire_ReadUint256 (args := [(y.v, y.L), (.int .i64 z, [])]) (B := []) (O := [.reg [(2, det (rdV (rdn y.l z 32)))]]) (.app (.nil _) (.app (hy) (.app (.nil _) (.nil _)))) (⟨c_rdn y z 32 (by decide) hN _ (by intro q h; simp [h]), fun _ => ⟨(), rfl, nofun⟩⟩)
theorem c_r64 (y : Byt) (z : Int) (hN : y.n < 4611686018427387904) (A : Facts) (hy : Sub y.L A) : Gives Try.prog 22 [y.v, .int .i64 z] A (Unit) (fun _ => .tuple #[.int .u64 (limb (rdn y.l z 8).1 0), .int .i64 ((rdn y.l z 8).2.1 : Int), .int .i64 ((rdn y.l z 8).2.2 : Int)]) (fun _ => []) :=
  gives_of_vcF Try.mixed good_wire_ReadUint64 (args := [(y.v, y.L), (.int .i64 z, [])]) (B := []) (O := [.reg [(2, det (rdV (rdn y.l z 8)))]]) (.app (.nil _) (.app (hy) (.app (.nil _) (.nil _)))) (⟨c_rdn y z 8 (by decide) hN _ (by intro q h; simp [h]), fun _ => ⟨by decide, ⟨(), rfl, nofun⟩⟩⟩)
theorem drop_0 (l : List UInt8) (k : Nat) : (l.drop k).getD 0 0 = l.getD k 0 := by simp [List.getD]
theorem drop_1 (l : List UInt8) (k : Nat) : (l.drop k).getD 1 0 = l.getD (k + 1) 0 := by simp [List.getD]
theorem sigC_drop (l : List UInt8) (k : Nat) : sigC (l.drop k) = (l.getD k 0).toNat := by unfold sigC; rw [drop_0]
theorem sig_drop {l : List UInt8} {k m : Nat} : sigOk (l.drop k) m = true ↔ (k < l.length ∧ (l.getD k 0).toNat ≤ m ∧ (l.getD k 0).toNat ≤ l.length - k - 1 ∧ ((l.getD k 0).toNat = 0 ∨ 0 < (l.getD (k + 1) 0).toNat)) := by
  rw [sigOk_iff, sigC_drop, drop_1, List.length_drop]
  constructor <;> intro h <;> refine ⟨by omega, h.2.1, h.2.2.1, h.2.2.2⟩
theorem rdn_code {l : List UInt8} {k m : Nat} (h : k ≤ l.length) : (rdn l k m).2.2 = 0 ∨ (rdn l k m).2.2 = 3 := by
  cases hs : sigOk (l.drop k) m with
  | false => rw [rdn_no h hs]; exact .inr rfl
  | true => rw [rdn_yes h hs]; exact .inl rfl
theorem rdn_lt {l : List UInt8} {z : Int} {m : Nat} (hm : m ≤ 32) : (rdn l z m).1 < B256 := by
  unfold rdn
  split
  · split
    · rename_i hs
      refine be_B ?_
      rw [List.length_take]
      have := (sigOk_iff.1 hs).2.1
      omega
    · exact B256_pos
  · exact B256_pos
/-- Whether the sign byte says 'negative'. -/
abbrev sB (l : List UInt8) (k : Nat) : Bool := decide (((l.getD k 0).toNat : Int) = 1)
/-- What reading a signed number gives. -/
def rdi (l : List UInt8) (z : Int) : Bool × Nat × Nat × Nat :=
  if 0 ≤ z ∧ z ≤ l.length then
    if z.toNat < l.length ∧ (l.getD z.toNat 0).toNat ≤ 1 then
      if (rdn l (z.toNat + 1 : Nat) 32).2.2 = 0 then
        if sB l z.toNat && isz (rdn l (z.toNat + 1 : Nat) 32).1 then (false, 0, 0, 3) else (sB l z.toNat, (rdn l (z.toNat + 1 : Nat) 32).1, (rdn l (z.toNat + 1 : Nat) 32).2.1, 0)
      else (false, 0, 0, 3)
    else (false, 0, 0, 3)
  else (false, 0, 0, 2)
abbrev rdIV (r : Bool × Nat × Nat × Nat) : Value := .tuple #[Ic r.1 r.2.1, .int .i64 (r.2.2.1 : Int), .int .i64 (r.2.2.2 : Int)]
theorem rdi_z (e : Nat) : Value.tuple #[.agg #[.bool false, .int .u64 0, .int .u64 0, .int .u64 0, .int .u64 0], .int .i64 0, .int .i64 (e : Int)] = rdIV (false, 0, 0, e) := by
  show _ = Value.tuple #[Ic false 0, .int .i64 0, .int .i64 (e : Int)]
  unfold Ic; rw [limb_zero.1, limb_zero.2.1, limb_zero.2.2.1, limb_zero.2.2.2]
theorem rdi_a {l : List UInt8} {z : Int} (h : ¬ (0 ≤ z ∧ z ≤ l.length)) : rdi l z = (false, 0, 0, 2) := if_neg h
theorem rdi_b {l : List UInt8} {k : Nat} (h : k ≤ l.length) (h1 : ¬ (k < l.length ∧ (l.getD k 0).toNat ≤ 1)) : rdi l k = (false, 0, 0, 3) := by
  unfold rdi; rw [if_pos (by omega), Int.toNat_natCast, if_neg h1]
theorem rdi_c {l : List UInt8} {k : Nat} (h1 : k < l.length) (h2 : (l.getD k 0).toNat ≤ 1) (h3 : (rdn l (k + 1 : Nat) 32).2.2 ≠ 0) : rdi l k = (false, 0, 0, 3) := by
  unfold rdi; rw [if_pos (by omega), Int.toNat_natCast, if_pos ⟨h1, h2⟩, if_neg h3]
theorem rdi_d {l : List UInt8} {k : Nat} (h1 : k < l.length) (h2 : (l.getD k 0).toNat ≤ 1) (h3 : (rdn l (k + 1 : Nat) 32).2.2 = 0) (h4 : (sB l k && isz (rdn l (k + 1 : Nat) 32).1) = true) : rdi l k = (false, 0, 0, 3) := by
  unfold rdi; rw [if_pos (by omega), Int.toNat_natCast, if_pos ⟨h1, h2⟩, if_pos h3, if_pos h4]
theorem rdi_e {l : List UInt8} {k : Nat} (h1 : k < l.length) (h2 : (l.getD k 0).toNat ≤ 1) (h3 : (rdn l (k + 1 : Nat) 32).2.2 = 0) (h4 : (sB l k && isz (rdn l (k + 1 : Nat) 32).1) = false) : rdi l k = (sB l k, (rdn l (k + 1 : Nat) 32).1, (rdn l (k + 1 : Nat) 32).2.1, 0) := by
  unfold rdi; rw [if_pos (by omega), Int.toNat_natCast, if_pos ⟨h1, h2⟩, if_pos h3, if_neg (by rw [h4]; exact Bool.false_ne_true)]
theorem eq_n {a b : Nat} (h : a = b) : decide ((a : Int) = (b : Int)) = true := by subst h; exact decide_eq_true rfl
theorem ne_n {a b : Nat} (h : a < b) : decide ((a : Int) = (b : Int)) = false := by apply decide_eq_false; omega
theorem gt_1 {a : Nat} (h : 1 < a) : decide ((a : Int) > 1) = true := by apply decide_eq_true; omega
theorem le_1 {a : Nat} (h : a ≤ 1) : decide ((a : Int) > 1) = false := by apply decide_eq_false; omega
theorem code_t {a : Nat} (h : a ≠ 0) : ((a : Int) != 0) = true := bne_t (by omega)
theorem code_f {a : Nat} (h : a = 0) : ((a : Int) != 0) = false := bne_f (by omega)
theorem gt_n {a b : Nat} (h : b < a) : decide ((a : Int) > (b : Int)) = true := by apply decide_eq_true; omega
theorem le_n {a b : Nat} (h : a ≤ b) : decide ((a : Int) > (b : Int)) = false := by apply decide_eq_false; omega
theorem lt_0 (k : Nat) : decide ((k : Int) < 0) = false := by apply decide_eq_false; omega
theorem not_neg {z : Int} (h : ¬ z < 0) : decide (z < 0) = false := decide_eq_false h
theorem and_nt {a b : Bool} (h : (a && b) = true) : (!(!a || !b)) = true := by cases a <;> cases b <;> first | rfl | cases h
theorem and_nf {a b : Bool} (h : (a && b) = false) : (!(!a || !b)) = false := by cases a <;> cases b <;> first | rfl | cases h

theorem good_int256_Valid : Good Try.prog 33 Try.f33 1 := ⟨Try.func33, by kernel_rfl, by kernel_rfl⟩
theorem c_val_f (n : Nat) : Det Try.prog 33 [Ic false n] (.bool (!false || !isz n)) :=
  det_of_vc Try.mixed good_int256_Valid (O := [.reg [(4, .no), (5, .no), (6, .no), (7, .no), (8, .yes)]]) fun _ => ⟨gft rfl, ⟨gft rfl, ⟨gft rfl, ⟨gft rfl, ⟨rfl, ⟨(), rfl, nofun⟩⟩⟩⟩⟩⟩
theorem c_val_t (n : Nat) : Det Try.prog 33 [Ic true n] (.bool (!true || !isz n)) :=
  det_of_vc Try.mixed good_int256_Valid (O := [.reg [(4, .yes), (5, .yes), (6, .yes), (7, .yes), (8, .no)]]) fun _ => ⟨gff rfl, ⟨gff rfl, ⟨gff rfl, ⟨⟨gff rfl, eqT_api_Uint256 rfl rfl⟩, ⟨rfl, ⟨(), rfl, nofun⟩⟩⟩⟩⟩⟩
theorem c_val (s : Bool) (n : Nat) : Det Try.prog 33 [Ic s n] (.bool (!s || !isz n)) := by
  cases s
  · exact c_val_f n
  · exact c_val_t n

theorem good_wire_ReadInt256 : Good Try.prog 26 Try.f26 2 := ⟨Try.func26, by kernel_rfl, by kernel_rfl⟩
theorem c_ri_a (y : Byt) (z : Int) (A : Facts) (hy : Sub y.L A) (h : ¬ (0 ≤ z ∧ z ≤ (y.n : Int))) : Gives Try.prog 26 [y.v, .int .i64 z] A (Unit) (fun _ => rdIV (rdi y.l z)) (fun _ => []) :=
  gives_of_vcF Try.mixed good_wire_ReadInt256 (args := [(y.v, y.L), (.int .i64 z, [])]) (B := []) (O := [.reg [(2, det (.bool (decide (0 ≤ z) && decide (z ≤ (y.n : Int)))))], .yes]) (.app (.nil _) (.app (hy) (.app (.nil _) (.nil _)))) (⟨c_isoff y z _ (by intro q h; simp [h]), fun _ => ⟨(isoff_out h), ⟨(), (rdi_z 2).trans (congrArg rdIV (rdi_a (by rw [y.hl]; exact h)).symm), nofun⟩⟩⟩)
theorem c_ri_b (y : Byt) (k : Nat) (A : Facts) (hy : Sub y.L A) (h : k = y.n) : Gives Try.prog 26 [y.v, .int .i64 (k : Int)] A (Unit) (fun _ => rdIV (rdi y.l k)) (fun _ => []) :=
  gives_of_vcF Try.mixed good_wire_ReadInt256 (args := [(y.v, y.L), (.int .i64 (k : Int), [])]) (B := []) (O := [.reg [(2, det (.bool (decide (0 ≤ (k : Int)) && decide ((k : Int) ≤ (y.n : Int)))))], .no, .reg [(5, .no), (6, .no), (7, .no), (8, .no), (9, .no), (10, .yes)], .yes]) (.app (.nil _) (.app (hy) (.app (.nil _) (.nil _)))) (⟨c_isoff y (k : Int) _ (by intro q h; simp [h]), fun _ => ⟨(isoff_in' (Nat.le_of_eq h)), ⟨gft (eq_n h), ⟨gft (eq_n h), ⟨gft (eq_n h), ⟨gft (eq_n h), ⟨gft (eq_n h), ⟨(eq_n h), ⟨rfl, ⟨(), (rdi_z 3).trans (congrArg rdIV (rdi_b (by rw [y.hl]; omega) (by rw [y.hl]; omega)).symm), nofun⟩⟩⟩⟩⟩⟩⟩⟩⟩⟩)
theorem c_ri_c (y : Byt) (k : Nat) (A : Facts) (hy : Sub y.L A) (h : k < y.n) (h1 : 1 < (y.l.getD k 0).toNat) : Gives Try.prog 26 [y.v, .int .i64 (k : Int)] A (Unit) (fun _ => rdIV (rdi y.l k)) (fun _ => []) :=
  gives_of_vcF Try.mixed good_wire_ReadInt256 (args := [(y.v, y.L), (.int .i64 (k : Int), [])]) (B := []) (O := [.reg [(2, det (.bool (decide (0 ≤ (k : Int)) && decide ((k : Int) ≤ (y.n : Int)))))], .no, .reg [(5, .yes), (6, .yes), (7, .yes), (8, .ld (.int .u8 ((y.l.getD k 0).toNat : Int))), (9, .yes), (10, .no)], .yes]) (.app (.nil _) (.app (hy) (.app (.nil _) (.nil _)))) (⟨c_isoff y (k : Int) _ (by intro q h; simp [h]), fun _ => ⟨(isoff_in' (Nat.le_of_lt h)), ⟨gff (ne_n h), ⟨gff (ne_n h), ⟨⟨gff (ne_n h), y.idx (by omega) (Int.ofNat_lt.2 h)⟩, ⟨⟨gff (ne_n h), y.load k rfl h (by intro q h; simp [h])⟩, ⟨gff (ne_n h), ⟨(ne_n h), ⟨(gt_1 h1), ⟨(), (rdi_z 3).trans (congrArg rdIV (rdi_b (by rw [y.hl]; omega) (by omega)).symm), nofun⟩⟩⟩⟩⟩⟩⟩⟩⟩⟩)
theorem ri_code {l : List UInt8} {k : Nat} (h : k < l.length) (h1 : (l.getD k 0).toNat ≤ 1) (h2 : (rdn l (k + 1 : Nat) 32).2.2 ≠ 0) : Value.tuple #[.agg #[.bool false, .int .u64 0, .int .u64 0, .int .u64 0, .int .u64 0], .int .i64 0, .int .i64 ((rdn l (k + 1 : Nat) 32).2.2 : Int)] = rdIV (rdi l k) := by
  rcases rdn_code (l := l) (k := k + 1) (m := 32) h with h3 | h3
  · exact absurd h3 h2
  · rw [h3, rdi_c h h1 h2]; exact rdi_z 3

theorem c_ri_d (y : Byt) (k : Nat) (A : Facts) (hy : Sub y.L A) (h : k < y.n) (hN : y.n < 4611686018427387904) (h1 : (y.l.getD k 0).toNat ≤ 1) (h2 : (rdn y.l (k + 1 : Nat) 32).2.2 ≠ 0) : Gives Try.prog 26 [y.v, .int .i64 (k : Int)] A (Unit) (fun _ => rdIV (rdi y.l k)) (fun _ => []) :=
  gives_of_vcF Try.mixed good_wire_ReadInt256 (args := [(y.v, y.L), (.int .i64 (k : Int), [])]) (B := []) (O := [.reg [(2, det (.bool (decide (0 ≤ (k : Int)) && decide ((k : Int) ≤ (y.n : Int)))))], .no, .reg [(5, .yes), (6, .yes), (7, .yes), (8, .ld (.int .u8 ((y.l.getD k 0).toNat : Int))), (9, .yes), (10, .no)], .no, .reg [(2, .ld (.int .i64 ((k + 1 : Nat) : Int))), (3, det (rdV (rdn y.l (k + 1 : Nat) 32)))], .yes]) (.app (.nil _) (.app (hy) (.app (.nil _) (.nil _)))) (⟨c_isoff y (k : Int) _ (by intro q h; simp [h]), fun _ => ⟨(isoff_in' (Nat.le_of_lt h)), ⟨gff (ne_n h), ⟨gff (ne_n h), ⟨⟨gff (ne_n h), y.idx (by omega) (Int.ofNat_lt.2 h)⟩, ⟨⟨gff (ne_n h), y.load k rfl h (by intro q h; simp [h])⟩, ⟨gff (ne_n h), ⟨(ne_n h), ⟨(le_1 h1), ⟨ld_add (add1 (by omega)) _, ⟨c_r256 y (k + 1 : Nat) hN _ (by intro q h; simp [h]), fun _ => ⟨(code_t h2), ⟨(), ri_code (by rw [y.hl]; exact h) h1 h2, nofun⟩⟩⟩⟩⟩⟩⟩⟩⟩⟩⟩⟩⟩)
theorem c_ri_e (y : Byt) (k : Nat) (A : Facts) (hy : Sub y.L A) (h : k < y.n) (hN : y.n < 4611686018427387904) (h1 : (y.l.getD k 0).toNat ≤ 1) (h2 : (rdn y.l (k + 1 : Nat) 32).2.2 = 0) (h3 : (sB y.l k && isz (rdn y.l (k + 1 : Nat) 32).1) = true) : Gives Try.prog 26 [y.v, .int .i64 (k : Int)] A (Unit) (fun _ => rdIV (rdi y.l k)) (fun _ => []) :=
  gives_of_vcF Try.mixed good_wire_ReadInt256 (args := [(y.v, y.L), (.int .i64 (k : Int), [])]) (B := []) (O := [.reg [(2, det (.bool (decide (0 ≤ (k : Int)) && decide ((k : Int) ≤ (y.n : Int)))))], .no, .reg [(5, .yes), (6, .yes), (7, .yes), (8, .ld (.int .u8 ((y.l.getD k 0).toNat : Int))), (9, .yes), (10, .no)], .no, .reg [(2, .ld (.int .i64 ((k + 1 : Nat) : Int))), (3, det (rdV (rdn y.l (k + 1 : Nat) 32)))], .no, .opt 8 [(3, .ld (.int .u8 ((y.l.getD k 0).toNat : Int)))], .reg [(1, det (.bool (!(sB y.l k) || !isz (rdn y.l (k + 1 : Nat) 32).1)))], .yes]) (.app (.nil _) (.app (hy) (.app (.nil _) (.nil _)))) (⟨c_isoff y (k : Int) _ (by intro q h; simp [h]), fun _ => ⟨(isoff_in' (Nat.le_of_lt h)), ⟨gff (ne_n h), ⟨gff (ne_n h), ⟨⟨gff (ne_n h), y.idx (by omega) (Int.ofNat_lt.2 h)⟩, ⟨⟨gff (ne_n h), y.load k rfl h (by intro q h; simp [h])⟩, ⟨gff (ne_n h), ⟨(ne_n h), ⟨(le_1 h1), ⟨ld_add (add1 (by omega)) _, ⟨c_r256 y (k + 1 : Nat) hN _ (by intro q h; simp [h]), fun _ => ⟨(code_f h2), ⟨y.idx (by omega) (Int.ofNat_lt.2 h), ⟨y.load k rfl h (by intro q h; simp [h]), ⟨c_val _ _ _, fun _ => ⟨(and_nt h3), ⟨(), (rdi_z 3).trans (congrArg rdIV (rdi_d (by rw [y.hl]; exact h) h1 h2 h3).symm), nofun⟩⟩⟩⟩⟩⟩⟩⟩⟩⟩⟩⟩⟩⟩⟩⟩⟩)
theorem c_ri_f (y : Byt) (k : Nat) (A : Facts) (hy : Sub y.L A) (h : k < y.n) (hN : y.n < 4611686018427387904) (h1 : (y.l.getD k 0).toNat ≤ 1) (h2 : (rdn y.l (k + 1 : Nat) 32).2.2 = 0) (h3 : (sB y.l k && isz (rdn y.l (k + 1 : Nat) 32).1) = false) : Gives Try.prog 26 [y.v, .int .i64 (k : Int)] A (Unit) (fun _ => rdIV (rdi y.l k)) (fun _ => []) :=
  gives_of_vcF Try.mixed good_wire_ReadInt256 (args := [(y.v, y.L), (.int .i64 (k : Int), [])]) (B := []) (O := [.reg [(2, det (.bool (decide (0 ≤ (k : Int)) && decide ((k : Int) ≤ (y.n : Int)))))], .no, .reg [(5, .yes), (6, .yes), (7, .yes), (8, .ld (.int .u8 ((y.l.getD k 0).toNat : Int))), (9, .yes), (10, .no)], .no, .reg [(2, .ld (.int .i64 ((k + 1 : Nat) : Int))), (3, det (rdV (rdn y.l (k + 1 : Nat) 32)))], .no, .opt 8 [(3, .ld (.int .u8 ((y.l.getD k 0).toNat : Int)))], .reg [(1, det (.bool (!(sB y.l k) || !isz (rdn y.l (k + 1 : Nat) 32).1)))], .no]) (.app (.nil _) (.app (hy) (.app (.nil _) (.nil _)))) (⟨c_isoff y (k : Int) _ (by intro q h; simp [h]), fun _ => ⟨(isoff_in' (Nat.le_of_lt h)), ⟨gff (ne_n h), ⟨gff (ne_n h), ⟨⟨gff (ne_n h), y.idx (by omega) (Int.ofNat_lt.2 h)⟩, ⟨⟨gff (ne_n h), y.load k rfl h (by intro q h; simp [h])⟩, ⟨gff (ne_n h), ⟨(ne_n h), ⟨(le_1 h1), ⟨ld_add (add1 (by omega)) _, ⟨c_r256 y (k + 1 : Nat) hN _ (by intro q h; simp [h]), fun _ => ⟨(code_f h2), ⟨y.idx (by omega) (Int.ofNat_lt.2 h), ⟨y.load k rfl h (by intro q h; simp [h]), ⟨c_val _ _ _, fun _ => ⟨(and_nf h3), ⟨(), (congrArg rdIV (rdi_e (by rw [y.hl]; exact h) h1 h2 h3)).symm, nofun⟩⟩⟩⟩⟩⟩⟩⟩⟩⟩⟩⟩⟩⟩⟩⟩⟩)
theorem c_rint (y : Byt) (z : Int) (hN : y.n < 4611686018427387904) (A : Facts) (hy : Sub y.L A) : Gives Try.prog 26 [y.v, .int .i64 z] A Unit (fun _ => rdIV (rdi y.l z)) (fun _ => []) := by
  by_cases h : 0 ≤ z ∧ z ≤ (y.n : Int)
  · obtain ⟨k, rfl⟩ := Int.eq_ofNat_of_zero_le h.1
    by_cases h0 : k = y.n
    · exact c_ri_b y k A hy h0
    have hk : k < y.n := by omega
    by_cases h1 : 1 < (y.l.getD k 0).toNat
    · exact c_ri_c y k A hy hk h1
    by_cases h2 : (rdn y.l (k + 1 : Nat) 32).2.2 = 0
    · cases h3 : (sB y.l k && isz (rdn y.l (k + 1 : Nat) 32).1) with
      | true => exact c_ri_e y k A hy hk hN (by omega) h2 h3
      | false => exact c_ri_f y k A hy hk hN (by omega) h2 h3
    · exact c_ri_d y k A hy hk hN (by omega) h2
  · exact c_ri_a y z A hy h

end Go.Proofs.Ytfpigcaihmlelaa

