/- The law WireMalformed over this translation, for all arguments: it returns true. No conditions besides. -/
import Derived.Test.YtfpigcaihmlelaaW6l
import Derived.Test.YtfpigcaihmlelaaW6o
namespace Go.Proofs.Ytfpigcaihmlelaa
open Go.RowKit Sx
set_option maxRecDepth 100000

theorem mf_l (n : Nat) : lenB (bcs ([] ++ enc n)) 1 = 1 + nb n := by rw [lenb, List.nil_append, enc_length]
theorem mf_len (n : Nat) : ((lenB (bcs ([] ++ enc n)) 1 : Int) == 0) = false := by rw [mf_l]; apply beq_eq_false_iff_ne.2; omega
theorem mf_mod (n : Nat) (cut : Int) (hn : n < B256) : Det Try.prog 19 [.int .i64 cut, .int .i64 (lenB (bcs ([] ++ enc n)) 1 : Nat)] (.int .i64 (modI cut (lenB (bcs ([] ++ enc n)) 1) : Nat)) := by
  have := nb_32 hn
  exact mod_raw cut _ (by rw [mf_l]; omega) (by rw [mf_l]; omega)
theorem mf_k (n : Nat) (cut : Int) : modI cut (lenB (bcs ([] ++ enc n)) 1) < lenB (bcs ([] ++ enc n)) 1 := modI_lt cut (by rw [mf_l]; omega)
theorem mf_n (n : Nat) (v : FrX (bcs ([] ++ enc n))) : 0 < (Byt.fr ([] ++ enc n) v).n := by show 0 < lenB _ 1; rw [mf_l]; omega
theorem mf_cut (n : Nat) (cut : Int) (v : FrX (bcs ([] ++ enc n))) : (0 : Int) ≤ 0 ∧ (0 : Int) ≤ ((modI cut (lenB (bcs ([] ++ enc n)) 1) : Nat) : Int) ∧ ((modI cut (lenB (bcs ([] ++ enc n)) 1) : Nat) : Int) ≤ ((frC 1 v : Nat) : Int) := by
  have h1 := mf_k n cut
  have h2 : lenB (bcs ([] ++ enc n)) 1 ≤ frC 1 v := (Byt.fr ([] ++ enc n) v).hc
  omega
theorem mf_cn {n : Nat} (hn : n < B256) (cut : Int) (v : FrX (bcs ([] ++ enc n))) : ((Byt.fr ([] ++ enc n) v).sub 0 (modI cut (lenB (bcs ([] ++ enc n)) 1)) (Nat.zero_le _) (Nat.le_of_lt (mf_k n cut))).n < 4611686018427387904 := by
  show modI cut _ - 0 < _
  have h1 := mf_k n cut
  have := nb_32 hn
  rw [mf_l] at h1 ⊢; omega
/-- An encoding that is cut off. -/
theorem rdn_cut {n k : Nat} (hn : n < B256) (hk : k < 1 + nb n) : rdn ((enc n).take k) 0 32 = (0, 0, 3) := by
  refine rdn_no (k := 0) (Nat.zero_le _) ?_
  rw [List.drop_zero]
  cases hs : sigOk ((enc n).take k) 32 with
  | false => rfl
  | true =>
    obtain ⟨h1, _, h3, _⟩ := sigOk_iff.1 hs
    have hl : ((enc n).take k).length = k := by rw [List.length_take, enc_length]; omega
    have hc : sigC ((enc n).take k) = nb n := by
      rw [← enc_head hn]
      unfold sigC
      rw [hl] at h1
      simp only [List.getD, List.getElem?_take]
      rw [if_pos h1]
    rw [hl] at h1 h3
    omega
theorem mf_e {n : Nat} (hn : n < B256) (cut : Int) (v : FrX (bcs ([] ++ enc n))) : rdn ((Byt.fr ([] ++ enc n) v).sub 0 (modI cut (lenB (bcs ([] ++ enc n)) 1)) (Nat.zero_le _) (Nat.le_of_lt (mf_k n cut))).l 0 32 = (0, 0, 3) := by
  have h1 := mf_k n cut
  show rdn ((([] ++ enc n).drop 0).take (modI cut (lenB (bcs ([] ++ enc n)) 1) - 0)) 0 32 = _
  rw [List.drop_zero, List.nil_append, Nat.sub_zero]
  rw [mf_l] at h1
  refine rdn_cut hn ?_
  have := mf_l n
  rw [List.nil_append] at this
  rw [this]; exact h1
theorem mf_ld (n : Nat) (v : FrX (bcs ([] ++ enc n))) {A : Facts} (hA : Sub (Byt.fr ([] ++ enc n) v).L A) : ∀ w, Sx.Holds w A → (loadVar 5 (((Byt.fr ([] ++ enc n) v).o.getD ⟨0, 0, none⟩).add ((0 : Int).toNat * 1))).run Try.prog w = .ok (.int .u8 ((UInt8.ofNat (nb n)).toNat : Int)) w :=
  (Byt.fr ([] ++ enc n) v).load 0 rfl (mf_n n v) hA
/-- No more bytes than the first one tells, or a zero in front. -/
theorem mf_h {n : Nat} (hn : n < B256) : rdn ([UInt8.ofNat (nb n) + 1, 0] ++ dg n) 0 32 = (0, 0, 3) := by
  refine rdn_no (k := 0) (Nat.zero_le _) ?_
  rw [List.drop_zero]
  cases hs : sigOk ([UInt8.ofNat (nb n) + 1, 0] ++ dg n) 32 with
  | false => rfl
  | true =>
    obtain ⟨_, _, _, h4⟩ := sigOk_iff.1 hs
    have h := nb_32 hn
    have hc : sigC ([UInt8.ofNat (nb n) + 1, 0] ++ dg n) = nb n + 1 := by
      show (UInt8.ofNat (nb n) + 1).toNat = _
      rw [UInt8.toNat_add, UInt8.toNat_ofNat']
      show (nb n % 256 + 1) % 256 = _
      omega
    rcases h4 with h4 | h4
    · omega
    · exact absurd h4 (by show ¬ 0 < (0 : UInt8).toNat; decide)
theorem mf_gn {n : Nat} (hn : n < B256) (g : FrX (bcs ([UInt8.ofNat (nb n) + 1, 0] ++ dg n))) : (Byt.fr ([UInt8.ofNat (nb n) + 1, 0] ++ dg n) g).n < 4611686018427387904 := by
  show lenB _ 1 < _
  have := nb_32 hn
  rw [lenb, List.length_append, dg_length]
  show 2 + nb n < _; omega
theorem u8_nat {k : Nat} (h : k < 256) : IntKind.u8.wrap (k : Int) = (k : Int) := by simp [IntKind.wrap, IntKind.bits, IntKind.signed]; omega
theorem mf_add (b : UInt8) : IntKind.u8.wrap ((b.toNat : Int) + 1) = ((b + 1).toNat : Int) := by
  rw [UInt8.toNat_add]
  simp [IntKind.wrap, IntKind.bits, IntKind.signed]
theorem mf_sum (a k c : Nat) (hk : 0 < k) (ha : a + k ≤ 256) : IntKind.u8.wrap ((a : Int) + ((c % k : Nat) : Int)) = ((UInt8.ofNat a + UInt8.ofNat (c % k)).toNat : Int) := by
  have hm := Nat.mod_lt c hk
  rw [UInt8.toNat_add, UInt8.toNat_ofNat', UInt8.toNat_ofNat', show ((a : Int) + ((c % k : Nat) : Int)) = ((a + c % k : Nat) : Int) by omega, u8_nat (by omega)]
  congr 1
  omega
section
variable {ρ : Operand → Value} {dst : Option Tmp} {type : TypeId} {pos : String} {after : Array Edge} {guard : Option (Nat × Bool)}
theorem ld_add8 {a b c : Int} (h : IntKind.u8.wrap (a + b) = c) (A : Facts) {x y : Operand} (hx : ρ x = .int .u8 a := by rfl) (hy : ρ y = .int .u8 b := by rfl) :
    ∀ w, Sx.Holds w A → (execOp ρ ⟨dst, .binOp .add 5 x y 5, type, pos, after, guard⟩).run Try.prog w = .ok (.value (.int .u8 c)) w := by
  intro w _
  have e : execOp ρ ⟨dst, .binOp .add 5 x y 5, type, pos, after, guard⟩ = (do let v ← binOp .add 5 (ρ x) (ρ y); pure (.value v)) := rfl
  rw [e, hx, hy, ← h]
  rfl
theorem mf_more {n : Nat} (hn : n < B256) (v : FrX (bcs ([] ++ enc n))) (m : Nat) (A : Facts) (hm : Sub (Byt.row m [UInt8.ofNat (nb n) + 1, 0]).L A) (hA : Sub (Byt.fr ([] ++ enc n) v).L A) {x s : Operand} (hx : ρ x = (Byt.row m [UInt8.ofNat (nb n) + 1, 0]).v := by rfl) (hs : ρ s = ((Byt.fr ([] ++ enc n) v).tail (mf_n n v)).v := by rfl) :
    GivesOp Try.prog (execOp ρ ⟨dst, .call ⟨.builtin .append, #[x, s], #[22, 22]⟩, type, pos, after, guard⟩) A (FrX (bcs ([UInt8.ofNat (nb n) + 1, 0] ++ dg n))) (fun x => .slice (frO x) (lenB (bcs ([UInt8.ofNat (nb n) + 1, 0] ++ dg n)) 1) (frC 1 x)) (fun x => frL 5 x) := by
  have hn2 : ((Byt.fr ([] ++ enc n) v).tail (mf_n n v)).n ≤ 33 := by
    show lenB _ 1 - 1 ≤ _
    have := nb_32 hn
    rw [mf_l]; omega
  have := give_more (dst := dst) (type := type) (pos := pos) (after := after) (guard := guard) m [UInt8.ofNat (nb n) + 1, 0] ((Byt.fr ([] ++ enc n) v).tail (mf_n n v)) hm hA (by show 2 + _ ≤ _; omega) hx hs
  have e : ((Byt.fr ([] ++ enc n) v).tail (mf_n n v)).l = dg n := by
    show (([] ++ enc n).drop 1).take (lenB _ 1 - 1) = _
    rw [mf_l, List.nil_append]
    show (dg n).take (1 + nb n - 1) = _
    rw [List.take_of_length_le (by rw [dg_length]; omega)]
  rwa [e] at this
end
theorem mf_big {l : List UInt8} {m : Nat} (h : m < (l.getD 0 0).toNat) : rdn l 0 m = (0, 0, 3) := by
  refine rdn_no (k := 0) (Nat.zero_le _) ?_
  rw [List.drop_zero]
  cases hs : sigOk l m with
  | false => rfl
  | true =>
    have h2 := (sigOk_iff.1 hs).2.1
    unfold sigC at h2
    omega
theorem mf_i {c : Nat} (_hc : c < 256) : rdn ([33 + UInt8.ofNat (c % 223), 1] ++ List.replicate 260 0) 0 32 = (0, 0, 3) := by
  refine mf_big ?_
  show 32 < (33 + UInt8.ofNat (c % 223)).toNat
  rw [UInt8.toNat_add, UInt8.toNat_ofNat']
  show 32 < (33 + c % 223 % 256) % 256
  omega
theorem mf_j {c : Nat} (_hc : c < 256) : rdn ([9 + UInt8.ofNat (c % 24), 1] ++ List.replicate 40 0) 0 8 = (0, 0, 3) := by
  refine mf_big ?_
  show 8 < (9 + UInt8.ofNat (c % 24)).toNat
  rw [UInt8.toNat_add, UInt8.toNat_ofNat']
  show 8 < (9 + c % 24 % 256) % 256
  omega
theorem mf_n1 (b : UInt8) (g : FrX (bcs ([b, 1] ++ List.replicate 260 0))) : (Byt.fr ([b, 1] ++ List.replicate 260 0) g).n < 4611686018427387904 := by
  show lenB _ 1 < _
  rw [lenb, List.length_append, List.length_replicate]; show 2 + 260 < _; decide
theorem mf_n2 (b : UInt8) (g : FrX (bcs ([b, 1] ++ List.replicate 40 0))) : (Byt.fr ([b, 1] ++ List.replicate 40 0) g).n < 4611686018427387904 := by
  show lenB _ 1 < _
  rw [lenb, List.length_append, List.length_replicate]; show 2 + 40 < _; decide
theorem good_pontagelaw6_WireMalformed : Good Try.prog 7 Try.f7 5 := ⟨Try.func7, by kernel_rfl, by kernel_rfl⟩
theorem mf_law (a b : Int) (s : Int) (cut : Int) (c n : Nat) (hn : n < B256) (hc : c < 256) (he : Det Try.prog 27 [.int .u64 a, .int .u64 b, .int .i64 s] (U n)) (A : Facts) : Gives Try.prog 7 [.int .u64 a, .int .u64 b, .int .i64 s, .int .i64 cut, .int .u8 (c : Int)] A (Unit) (fun _ => .bool true) (fun _ => []) :=
  gives_of_vcF Try.mixed good_pontagelaw6_WireMalformed (args := [(.int .u64 a, []), (.int .u64 b, []), (.int .i64 s, []), (.int .i64 cut, []), (.int .u8 (c : Int), [])]) (B := []) (O := [.reg [(3, det (U n))], .reg [(1, frv (bcs (([] ++ enc n))))], .no, .reg [(3, det (.int .i64 ((modI cut (lenB (bcs ([] ++ enc n)) 1)) : Nat)))], .reg [(3, det (rdV (0, 0, 3)))], .opt 7 [(2, .ld (.int .u8 ((UInt8.ofNat (nb n)).toNat : Int))), (3, .ld (.int .u8 ((UInt8.ofNat (nb n) + 1).toNat : Int))), (4, .call Nat 0 (fun m => (Byt.row m [UInt8.ofNat (nb n) + 1, 0]).v) (fun m => (Byt.row m [UInt8.ofNat (nb n) + 1, 0]).L)), (7, frv (bcs ([UInt8.ofNat (nb n) + 1, 0] ++ dg n)))], .reg [(1, det (rdV (0, 0, 3)))], .opt 9 [(2, .ld (.int .u8 ((33 + UInt8.ofNat (c % 223)).toNat : Int))), (3, .call Nat 0 (fun m => (Byt.row m [33 + UInt8.ofNat (c % 223), 1]).v) (fun m => (Byt.row m [33 + UInt8.ofNat (c % 223), 1]).L)), (4, frv (bcs ([33 + UInt8.ofNat (c % 223), 1] ++ List.replicate 260 0)))], .reg [(1, det (rdV (0, 0, 3)))], .reg [(2, .ld (.int .u8 ((9 + UInt8.ofNat (c % 24)).toNat : Int))), (3, .call Nat 0 (fun m => (Byt.row m [9 + UInt8.ofNat (c % 24), 1]).v) (fun m => (Byt.row m [9 + UInt8.ofNat (c % 24), 1]).L)), (4, frv (bcs ([9 + UInt8.ofNat (c % 24), 1] ++ List.replicate 40 0))), (5, det (r64W (0, 0, 3)))], .reg [(3, .yes), (4, .yes), (5, .yes), (7, .yes), (8, .yes), (9, .yes), (11, .yes), (12, .yes), (13, .yes), (15, det (.bool true)), (16, .yes)]]) (.app (.nil _) (.app (.nil _) (.app (.nil _) (.app (.nil _) (.app (.nil _) (.app (.nil _) (.nil _))))))) (⟨he _, fun _ => ⟨(c_app256 Byt.nil n hn (by decide) _ (Sub.nil _)).gives, fun v => ⟨(mf_len n), ⟨mf_mod n cut hn _, fun _ => ⟨mf_cut n cut v, ⟨c_r256_at ((Byt.fr ([] ++ enc n) v).sub 0 (modI cut (lenB (bcs ([] ++ enc n)) 1)) (Nat.zero_le _) (Nat.le_of_lt (mf_k n cut))) 0 (mf_e hn cut v) (mf_cn hn cut v) _ (by intro z h; have h : z ∈ frL 5 v := h; simp [h]), fun _ => ⟨(Byt.fr ([] ++ enc n) v).idx (by decide) (Int.ofNat_lt.2 (mf_n n v)), ⟨mf_ld n v (by intro z h; have h : z ∈ frL 5 v := h; simp [h]), ⟨ld_add8 (mf_add _) _, ⟨build_2 _ 0 _, fun m => ⟨(Byt.fr ([] ++ enc n) v).cut1 (mf_n n v), ⟨mf_more hn v m _ (by intro z h; have h : z ∈ (Byt.row m [UInt8.ofNat (nb n) + 1, 0]).L := h; simp [h]) (by intro z h; have h : z ∈ frL 5 v := h; simp [h]), fun g => ⟨c_r256_at (Byt.fr ([UInt8.ofNat (nb n) + 1, 0] ++ dg n) g) 0 (mf_h hn) (mf_gn hn g) _ (by intro z h; have h : z ∈ frL 5 g := h; simp [h]), fun _ => ⟨⟨by decide, rfl⟩, ⟨ld_add8 (mf_sum 33 223 c (by decide) (by decide)) _, ⟨build_2 _ 1 _, fun m1 => ⟨give_zer m1 [33 + UInt8.ofNat (c % 223), 1] (by decide) (by show 2 + 260 ≤ _; decide) (by intro z h; have h : z ∈ (Byt.row m1 [33 + UInt8.ofNat (c % 223), 1]).L := h; simp [h]), fun g1 => ⟨c_r256_at (Byt.fr ([33 + UInt8.ofNat (c % 223), 1] ++ List.replicate 260 0) g1) 0 (mf_i hc) (mf_n1 _ g1) _ (by intro z h; have h : z ∈ frL 5 g1 := h; simp [h]), fun _ => ⟨⟨by decide, rfl⟩, ⟨ld_add8 (mf_sum 9 24 c (by decide) (by decide)) _, ⟨build_2 _ 1 _, fun m2 => ⟨give_zer m2 [9 + UInt8.ofNat (c % 24), 1] (by decide) (by show 2 + 40 ≤ _; decide) (by intro z h; have h : z ∈ (Byt.row m2 [9 + UInt8.ofNat (c % 24), 1]).L := h; simp [h]), fun g2 => ⟨c_r64_at (Byt.fr ([9 + UInt8.ofNat (c % 24), 1] ++ List.replicate 40 0) g2) 0 (mf_j hc) (mf_n2 _ g2) _ (by intro z h; have h : z ∈ frL 5 g2 := h; simp [h]), fun _ => ⟨gtt rfl, ⟨gtt rfl, ⟨rfl, ⟨gtt rfl, ⟨gtt rfl, ⟨rfl, ⟨gtt rfl, ⟨gtt rfl, ⟨rfl, ⟨⟨gtt rfl, aw6 _⟩, fun _ => ⟨rfl, ⟨(), rfl, nofun⟩⟩⟩⟩⟩⟩⟩⟩⟩⟩⟩⟩⟩⟩⟩⟩⟩⟩⟩⟩⟩⟩⟩⟩⟩⟩⟩⟩⟩⟩⟩⟩⟩⟩⟩)
end Go.Proofs.Ytfpigcaihmlelaa

